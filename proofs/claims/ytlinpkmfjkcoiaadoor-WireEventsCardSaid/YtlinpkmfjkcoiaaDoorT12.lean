/- The laws' own tight. -/
import Derived.Test.YtlinpkmfjkcoiaaDoorT11
import Derived.Test.YtlinpkmfjkcoiaaDoorT5
namespace Go.Proofs.YtlinpkmfjkcoiaaDoor
open Go Go.RowKit
set_option maxHeartbeats 2000000
set_option linter.unusedVariables false
set_option linter.unusedSimpArgs false
attribute [local go_sem ↓] run_front22 run_neq_VV
theorem ValRow.front {w : World} {p : Option Addr} {vl t : List V4} (h : ValRow w p (vl ++ t)) : ValRow w p vl := by
  intro i hi
  obtain ⟨b, o, e, h1, h2, h3, h4⟩ := h i (by rw [List.length_append]; omega)
  rw [List.getElem_append_left hi] at h1 h2 h3 h4
  exact ⟨b, o, e, h1, h2, h3, h4⟩
theorem ValRow.mark {w : World} {p : Option Addr} {vl : List V4} (h : ValRow w p (wideL vl)) {k : Nat} (h1 : vl.length ≤ k) (h2 : k < vl.length + 34) : ∃ b o, p = some ⟨b, o, none⟩ ∧ w.cell? ⟨b, o + k * 4, none⟩ = some (.int .i64 1) ∧ w.cell? ⟨b, o + k * 4 + 1, none⟩ = some (.int .i64 (77 + ((k : Int) - (vl.length : Int)))) ∧ w.cell? ⟨b, o + k * 4 + 2, none⟩ = some (.string ⟨#[]⟩) ∧ w.cell? ⟨b, o + k * 4 + 3, none⟩ = some (.bool false) := by
  have hk : k < (wideL vl).length := by rw [wide_len]; exact h2
  obtain ⟨b, o, e, c0, c1, c2, c3⟩ := h k hk
  have e2 := wide_back h1 h2
  rw [List.getElem?_eq_getElem hk] at e2
  rw [Option.some.inj e2] at c0 c1 c2 c3
  exact ⟨b, o, e, c0, c1, c2, c3⟩
set_option maxRecDepth 100000 in
theorem tight_any (ty : ByteArray) (tm : Int) (vl : List V4) (p q : Option Addr) (c d : Nat) (hd : vl.length ≤ d) (hdm : d ≤ maxLen) (w : World) (hr : ValRow w p vl) (hq : ValRow w q (wideL vl)) (hm : vl.length * 40 ≤ 140737488351232) :
    Calls Tryd.prog 28 #[.slice q (vl.length + 34) d, .agg #[.string ty, .int .i64 tm, .slice p vl.length c]] w fun e w' => e = .returned (.bool true) ∧ Below w.heap.size w w' := by
  obtain ⟨w0, hw0⟩ : ∃ x, x = w.alloc (.cells #[.string ty, .int .i64 tm, .slice p vl.length c] 24) := ⟨_, rfl⟩
  have hb0 : Below w.heap.size w w0 := by rw [hw0]; exact (Below.refl _ _).alloc (Nat.le_refl _) _
  have T0 : Three w0 w.heap.size ty tm (.slice p vl.length c) := by rw [hw0]; exact Three.new w ty tm p vl.length c
  have HVT : Hid (∀ wx, Below w0.heap.size w0 wx → Calls Tryd.prog 50 #[.slice q vl.length d, .slice p vl.length c] wx fun e w' => e = .returned (.bool true) ∧ Below wx.heap.size wx w') := fun wx hx => vals_true vl q p d c wx (((hq.below hb0).below hx).front) ((hr.below hb0).below hx) (by unfold maxLen; omega)
  have HQ := Lib.hid (hq.below hb0)
  obtain ⟨n, hn⟩ : ∃ n, n = vl.length := ⟨_, rfl⟩
  have HN := Lib.hid hn
  rw [← hn] at hd hm hw0 T0 HVT ⊢
  have HB0 := Lib.hid hb0
  have HW := Lib.hid hw0
  have hE0 := lt_of_cell T0.c2
  obtain ⟨E, hE⟩ : ∃ E, E = w.heap.size := ⟨_, rfl⟩
  rw [← hE] at T0 hE0
  have TT := Lib.hid T0
  have HS : Hid (∀ wx, Below w0.heap.size w0 wx → Below w0.heap.size w0 wx ∧ wx.cell? ⟨E, 2, none⟩ = some (.slice p n c)) := fun wx hx => ⟨hx, (hx.cell (p := ⟨E, 2, none⟩) hE0).trans T0.c2⟩
  obtain ⟨c0, c1, c2, z0, z1, z2⟩ := T0
  unfold maxLen at hdm
  clear hw0 hb0 hr hq hn
  go_enter Tryd.func28, Tryd.ntmps28
  go_upto_region 1 with fail
  rw [← HW.out, ← hE]
  clear hE
  have e1 : IntKind.i64.wrap ((n : Int) + 34) = (n : Int) + 34 := by rw [IntWalk.i64_in _ (by omega)]
  have e2 : (((n : Int) + 34) != ((n : Int) + 34)) = false := by simp
  have e3 : (0 : Int) ≤ (n : Int) := by omega
  have e4 : (n : Int) ≤ (d : Int) := by omega
  go_wp2
  go_region_held3 (fun wx => Below w0.heap.size w0 wx ∧ wx.cell? ⟨E, 2, none⟩ = some (.slice p n c))
    ((refine HS.out _ ?_; first | assumption | exact Below.refl _ _ | exact (Below.refl _ _).drew | exact held_below (by assumption)))
    (first | (go_at_call 50; refine (HVT.out _ (held_below (by assumption))).mono ?_; rintro e w1 ⟨rfl, hb1⟩; have hB1 : Below w0.heap.size w0 w1 := held_on (by assumption) hb1))
  all_goals
    have HB1 := Lib.hid hB1
    clear c0 c1 c2 z0 z1 z2 e1 e2
    go_wp2
    go_loopw [6] (fun i wr => ∃ k : Nat, n ≤ k ∧ k ≤ n + 34 ∧ i = .int .i64 k ∧ Below w0.heap.size w0 wr) (fun i _ => n + 34 - (intOf i).toNat)
    case atStart => exact ⟨n, Nat.le_refl _, by omega, rfl, HB1.out⟩
    case round =>
      obtain ⟨k, hnk, hk, rfl, hb⟩ := hrel
      have HB := Lib.hid hb
      clear hb
      by_cases hlt : k < n + 34
      · obtain ⟨b, o, rfl, d0, d1, d2, d3⟩ := (HQ.out.below HB.out).mark (by rw [← HN.out]; exact hnk) (by rw [← HN.out]; exact hlt)
        rw [← show n = _ from HN.out] at d1
        have hbl := lt_of_cell d0
        have HSK : Hid (∀ wx, Below wr.heap.size wr wx → Below wr.heap.size wr wx ∧ wx.cell? ⟨b, o + k * 4, none⟩ = some (.int .i64 1) ∧ wx.cell? ⟨b, o + k * 4 + 1, none⟩ = some (.int .i64 (77 + ((k : Int) - (n : Int)))) ∧ wx.cell? ⟨b, o + k * 4 + 2, none⟩ = some (.string ⟨#[]⟩) ∧ wx.cell? ⟨b, o + k * 4 + 3, none⟩ = some (.bool false)) := fun wx hx =>
          ⟨hx, (hx.cell (p := ⟨b, o + k * 4, none⟩) hbl).trans d0, (hx.cell (p := ⟨b, o + k * 4 + 1, none⟩) hbl).trans d1, (hx.cell (p := ⟨b, o + k * 4 + 2, none⟩) hbl).trans d2, (hx.cell (p := ⟨b, o + k * 4 + 3, none⟩) hbl).trans d3⟩
        have e5 : IntKind.i64.wrap ((k : Int) - (n : Int)) = (k : Int) - (n : Int) := by rw [IntWalk.i64_in _ (by omega)]
        have HMK : Hid (∀ wx, Calls Tryd.prog 55 #[.int .i64 ((k : Int) - (n : Int))] wx fun e w' => e = .returned (.agg #[.int .i64 1, .int .i64 (77 + ((k : Int) - (n : Int))), .string ⟨#[]⟩, .bool false]) ∧ Below wx.heap.size wx w') := fun wx => mark_any _ (by omega) (by omega) wx
        go_wp2
        go_region_held3 (fun wx => Below wr.heap.size wr wx ∧ wx.cell? ⟨b, o + k * 4, none⟩ = some (.int .i64 1) ∧ wx.cell? ⟨b, o + k * 4 + 1, none⟩ = some (.int .i64 (77 + ((k : Int) - (n : Int)))) ∧ wx.cell? ⟨b, o + k * 4 + 2, none⟩ = some (.string ⟨#[]⟩) ∧ wx.cell? ⟨b, o + k * 4 + 3, none⟩ = some (.bool false))
          ((refine HSK.out _ ?_; first | assumption | exact Below.refl _ _ | exact (Below.refl _ _).drew | exact held_below (by assumption)))
          (first | (go_at_call 55; refine (HMK.out _).mono ?_; rintro e w2 ⟨rfl, hb2⟩; have hB2 : Below wr.heap.size wr w2 := held_on (by assumption) hb2))
        all_goals
          have HB2 : Hid (Below w0.heap.size w0 w2) := HB.out.trans (hB2.mono HB.out.size)
          clear d0 d1 d2 d3 e5
          go_wp2
          go_roundw
          case rel => exact ⟨k + 1, by omega, by omega, by go_num, HB2.out⟩
          case measure => simp [intOf]; omega
      · go_wp2
        go_ret
        exact ⟨rfl, HB0.out.trans (HB.out.mono HB0.out.size)⟩
end Go.Proofs.YtlinpkmfjkcoiaaDoor
