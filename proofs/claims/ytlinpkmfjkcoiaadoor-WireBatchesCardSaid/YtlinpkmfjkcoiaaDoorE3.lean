/- Contracts of package wire's fault. -/
import Derived.Test.YtlinpkmfjkcoiaaDoorE2
namespace Go.Proofs.YtlinpkmfjkcoiaaDoor
open Go Go.RowKit
set_option maxHeartbeats 4000000
set_option linter.unusedVariables false
set_option linter.unusedSimpArgs false
/-- a row of values lies there -/
def ValRow (w : World) (p : Option Addr) (vl : List V4) : Prop := ∀ i (h : i < vl.length), ∃ b o, p = some ⟨b, o, none⟩ ∧ w.cell? ⟨b, o + i * 4, none⟩ = some (.int .i64 vl[i].k) ∧ w.cell? ⟨b, o + i * 4 + 1, none⟩ = some (.int .i64 vl[i].n) ∧ w.cell? ⟨b, o + i * 4 + 2, none⟩ = some (.string vl[i].s) ∧ w.cell? ⟨b, o + i * 4 + 3, none⟩ = some (.bool vl[i].b)
theorem ValRow.below {w w' : World} {p : Option Addr} {vl : List V4} (h : ValRow w p vl) (hb : Below w.heap.size w w') : ValRow w' p vl := by
  intro i hi
  obtain ⟨b, o, e, h1, h2, h3, h4⟩ := h i hi
  have hl := lt_of_cell h1
  exact ⟨b, o, e, (hb.cell (p := ⟨b, o + i * 4, none⟩) hl).trans h1, (hb.cell (p := ⟨b, o + i * 4 + 1, none⟩) hl).trans h2, (hb.cell (p := ⟨b, o + i * 4 + 2, none⟩) hl).trans h3, (hb.cell (p := ⟨b, o + i * 4 + 3, none⟩) hl).trans h4⟩
def okB (v : V4) : Bool := valid v.k v.n v.s v.b
/-- what is wrong with an event -/
def encF (ty : List UInt8) (tm : Int) (vl : List V4) : Int := if nameL ty = false then 20 else if tm < 0 ∨ 4611686018427387904 < tm then 23 else if 16 < vl.length then 2 else if vl.all okB then 0 else 12
theorem all_take {vl : List V4} {k : Nat} (h : k < vl.length) : (vl.take (k + 1)).all okB = ((vl.take k).all okB && okB vl[k]) := by
  rw [List.take_add_one, List.all_append, List.getElem?_eq_getElem h]
  simp
theorem not_all {vl : List V4} {k : Nat} (h : k < vl.length) (hk : okB vl[k] = false) : vl.all okB = false := by
  rw [List.all_eq_false]
  exact ⟨vl[k], List.getElem_mem h, by simp [hk]⟩
def FaultIs (w : World) (E : Int) (e : Ending) (w' : World) : Prop := e = .returned (.int .i64 E) ∧ Below w.heap.size w w'
set_option maxRecDepth 100000 in
theorem fault_any (ty : ByteArray) (tm : Int) (vl : List V4) (p : Option Addr) (c : Nat) (w : World) (hK : Kw w) (hr : ValRow w p vl) (hm : vl.length ≤ maxLen) :
    Calls Tryd.prog 47 #[.agg #[.string ty, .int .i64 tm, .slice p vl.length c]] w (FaultIs w (encF ty.toList tm vl)) := by
  obtain ⟨n, hn⟩ : ∃ n, n = vl.length := ⟨_, rfl⟩
  rw [← hn] at hm ⊢
  have HNL := Lib.hid hn
  have HR := Lib.hid hr
  unfold maxLen at hm
  obtain ⟨w0, hw0⟩ : ∃ x, x = w.alloc (.cells #[.string ty, .int .i64 tm, .slice p n c] 24) := ⟨_, rfl⟩
  have hb0 : Below w.heap.size w w0 := by rw [hw0]; exact (Below.refl _ _).alloc (Nat.le_refl _) _
  have HK0 := Lib.hid (hK.below hb0)
  have HB0 := Lib.hid hb0
  have T0 : Hid (Three w0 w.heap.size ty tm (.slice p n c)) := by show Three _ _ _ _ _; rw [hw0]; exact Three.new w ty tm p n c
  have HW := Lib.hid hw0
  clear hn hr hw0 hK hb0
  cases hname : nameL ty.toList
  · have HE : Hid (encF ty.toList tm vl = 20) := by show _ = _; unfold encF; rw [if_pos hname]
    have HNM := Lib.hid hname
    obtain ⟨c0, c1, c2, z0, z1, z2⟩ := T0.out
    go_enter Tryd.func47, Tryd.ntmps47
    go_upto_region 1 with fail
    rw [← HW.out]
    go_wp2_with (go_at_call 76; refine (name_any _ _ HK0.out).mono ?_; rintro e w1 ⟨rfl, hb1⟩)
    go_ret
    exact ⟨by rw [HE.out]; rfl, HB0.out.trans (hb1.mono HB0.out.size)⟩
  · have HNM := Lib.hid hname
    obtain ⟨c0, c1, c2, z0, z1, z2⟩ := T0.out
    go_enter Tryd.func47, Tryd.ntmps47
    go_upto_region 1 with fail
    rw [← HW.out]
    go_wp2_with fail
    refine (name_any _ _ HK0.out).mono ?_
    rintro e w1 ⟨rfl, hb1⟩
    have T1 := Lib.hid (T0.out.below hb1)
    have HB1 : Hid (Below w.heap.size w w1) := HB0.out.trans (hb1.mono HB0.out.size)
    clear c0 c1 c2 z0 z1 z2 hb1
    obtain ⟨c0, c1, c2, z0, z1, z2⟩ := T1.out
    by_cases ht : tm < 0 ∨ 4611686018427387904 < tm
    · have HE : Hid (encF ty.toList tm vl = 23) := by show _ = _; unfold encF; rw [if_neg (by rw [HNM.out]; decide), if_pos ht]
      rcases ht with ht | ht
      · have dt : decide (tm < 0) = true := by simpa using ht
        go_wp2
        go_ret
        exact ⟨by rw [HE.out]; rfl, HB1.out⟩
      · have dt : decide (tm < 0) = false := by simp; omega
        have dt2 : decide (4611686018427387904 < tm) = true := by simpa using ht
        go_wp2
        go_ret
        exact ⟨by rw [HE.out]; rfl, HB1.out⟩
    · have dt : decide (tm < 0) = false := by simp; omega
      have dt2 : decide (4611686018427387904 < tm) = false := by simp; omega
      by_cases h16 : n ≤ 16
      · have d16 : decide ((16 : Int) < (n : Int)) = false := by simp; omega
        have HE : Hid (encF ty.toList tm vl = if vl.all okB then 0 else 12) := by show _ = _; unfold encF; rw [if_neg (by rw [HNM.out]; decide), if_neg ht, if_neg (by rw [← HNL.out]; omega)]
        clear ht
        go_wp2
        go_loopw [27] (fun i wr => ∃ k : Nat, k ≤ n ∧ i = .int .i64 k ∧ Below w.heap.size w wr ∧ (vl.take k).all okB = true) (fun i _ => n - (intOf i).toNat)
        case atStart => exact ⟨0, Nat.zero_le _, rfl, HB1.out, rfl⟩
        case round =>
          obtain ⟨k, hk, rfl, hb, hall⟩ := hrel
          have HB := Lib.hid hb
          have HA := Lib.hid hall
          clear hall
          by_cases hlt : k < n
          · have hkl : k < vl.length := by rw [← HNL.out]; exact hlt
            obtain ⟨b, o, rfl, d0, d1, d2, d3⟩ := HR.out k hkl
            have hbl := lt_of_cell d0
            have y0 := (hb.cell (p := ⟨b, o + k * 4, none⟩) (by exact hbl)).trans d0
            have y1 := (hb.cell (p := ⟨b, o + k * 4 + 1, none⟩) (by exact hbl)).trans d1
            have y2 := (hb.cell (p := ⟨b, o + k * 4 + 2, none⟩) (by exact hbl)).trans d2
            have y3 := (hb.cell (p := ⟨b, o + k * 4 + 3, none⟩) (by exact hbl)).trans d3
            clear d0 d1 d2 d3 hb
            obtain ⟨v, hv⟩ : ∃ v, v = vl[k] := ⟨_, rfl⟩
            rw [← hv] at y0 y1 y2 y3
            have HV := Lib.hid hv
            have hsz := HB.out.size
            clear hv
            cases hok : okB v
            all_goals
              have HOK := Lib.hid hok
              obtain ⟨vk, vn, vs, vb⟩ := v
              have HVA : Hid (∀ wx, Calls Tryd.prog 77 #[.agg #[.int .i64 vk, .int .i64 vn, .string vs, .bool vb]] wx fun e w' => e = .returned (.bool (okB ⟨vk, vn, vs, vb⟩)) ∧ Below wx.heap.size wx w') := fun wx => valid_any vk vn vs vb wx
              go_wp2_with fail
              refine (HVA.out _).mono ?_
              rintro e w3 ⟨rfl, hb3⟩
              have HB3 : Hid (Below w.heap.size w w3) := (HB.out.alloc hsz _).trans (hb3.mono (by simp; omega))
              clear hb3
            · rw [HOK.out]
              go_wp2
              go_ret
              exact ⟨by rw [HE.out, not_all hkl (by rw [← HV.out]; exact HOK.out)]; rfl, HB3.out⟩
            · rw [HOK.out]
              go_wp2
              go_roundw
              case rel => exact ⟨k + 1, by omega, by go_num, HB3.out, by rw [all_take hkl, HA.out, ← HV.out, HOK.out]; rfl⟩
              case measure => simp [intOf]; omega
          · have hkk : k = n := by omega
            have HKK := Lib.hid hkk
            clear hkk hb
            go_wp2
            go_ret
            refine ⟨?_, HB.out⟩
            have : vl.all okB = true := by
              have h1 := HA.out
              rw [HKK.out, HNL.out, List.take_of_length_le (Nat.le_refl _)] at h1
              exact h1
            rw [HE.out, this]
            rfl
      · have d16 : decide ((16 : Int) < (n : Int)) = true := by simp; omega
        have HE : Hid (encF ty.toList tm vl = 2) := by show _ = _; unfold encF; rw [if_neg (by rw [HNM.out]; decide), if_neg ht, if_pos (by rw [← HNL.out]; omega)]
        clear ht
        go_wp2
        go_ret
        exact ⟨by rw [HE.out]; rfl, HB1.out⟩
end Go.Proofs.YtlinpkmfjkcoiaaDoor
