/- Contract of the document's own answer's reader: number. -/
import Derived.Test.YtlinpkmfjkcoiaaDoorT4
import Derived.Deep.RegionHeld3
import Derived.Deep.DeepCutAuto
import Derived.Deep.CutRange
namespace Go.Proofs.YtlinpkmfjkcoiaaDoor
open Go Go.RowKit
set_option maxHeartbeats 2000000
set_option linter.unusedVariables false
set_option linter.unusedSimpArgs false
attribute [local go_sem ↓] run_rest
theorem held_below {n : Nat} {a w : World} {A : Prop} (h : Below n a w ∧ A) : Below n a w := h.1
theorem held_on {a w w' : World} {A : Prop} (h : Below a.heap.size a w ∧ A) (hb : Below w.heap.size w w') : Below a.heap.size a w' := h.1.trans (hb.mono h.1.size)
theorem After.blw {w w1 : World} {R : Nat} {sv : Value} {n a : Nat} {f : Int} (h : Rdr w R sv a f) (ha : a ≤ n) (hb : Below w.heap.size w w1) : After w w1 R sv n a f := (After.refl h ha).below hb
theorem In.of_byt {w : World} {R : Nat} {p : Option Addr} {l : List UInt8} (h : Byt w R p l) : In w p l := fun i hi => by
  obtain ⟨b, o, e, _, d⟩ := h i hi
  exact ⟨b, o, e, d⟩
set_option maxRecDepth 100000 in
theorem refNum_any (R : Nat) (p : Option Addr) (c : Nat) (l : List UInt8) (a : Nat) (f lo hi : Int) (w : World) (h : Lies w R p c l a f) :
    Calls Tryd.prog 60 #[.pointer (some ⟨R, 0, none⟩), .int .i64 lo, .int .i64 hi] w (NumIn w R (.slice p l.length c) l a f lo hi) := by
  have H := Lib.hid h
  have hr := h.rd
  have ha := h.le
  have HAF := Lib.hid (After.refl h.rd h.le)
  have hcm : c ≤ 9223372036854775807 := by have := h.mx; unfold maxLen at this; exact this
  have hcl := h.cp
  obtain ⟨sv, hsv⟩ : ∃ sv, sv = Value.slice p l.length c := ⟨_, rfl⟩
  rw [← hsv] at HAF ⊢
  have HSV := Lib.hid hsv
  have hR := h.rd.lt
  have HIN0 : Hid (∀ wx, Below w.heap.size w wx → Calls Tryd.prog 25 #[.slice (restP p a c) (l.length - a) (c - a)] wx (IntIs wx (l.drop a))) := fun wx hx => by
    have := refInt_any (restP p a c) (c - a) (l.drop a) wx ((In.of_byt ((H.out.by_).drop H.out.cp)).below hx) (by rw [List.length_drop]; omega) (by have := H.out.mx; omega)
    rw [List.length_drop] at this
    exact this
  clear h
  by_cases hf : f = 0
  · subst hf
    have HBW : Hid (∀ wx, Below w.heap.size w wx → After w wx R sv l.length a 0) := fun wx hx => by rw [show sv = _ from HSV.out]; exact After.blw H.out.rd H.out.le hx
    obtain ⟨m, hml⟩ : ∃ m, m = l.length := ⟨_, rfl⟩
    have HM := Lib.hid hml
    rw [← hml] at hr ha hcl HIN0 HAF HBW
    obtain ⟨c0, c1, c2, z1, z2⟩ := hr
    have HS : Hid (∀ wx, Below w.heap.size w wx → Below w.heap.size w wx ∧ wx.cell? ⟨R, 0, none⟩ = some (.slice p m c) ∧ wx.cell? ⟨R, 1, none⟩ = some (.int .i64 a)) := fun wx hx => ⟨hx, (hx.cell (p := ⟨R, 0, none⟩) hR).trans c0, (hx.cell (p := ⟨R, 1, none⟩) hR).trans c1⟩
    have v0 : (0 : Int) ≤ (a : Int) := by omega
    have v1 : (a : Int) ≤ (m : Int) := by omega
    cases hnum : num (l.drop a) with
    | bad E =>
      have HIN : Hid (∀ wx, Below w.heap.size w wx → Calls Tryd.prog 25 #[.slice (restP p a c) (m - a) (c - a)] wx (fun e w' => e = .returned (.tuple #[.int .i64 0, .int .i64 0, .int .i64 E]) ∧ E ≠ 0 ∧ Below wx.heap.size wx w')) := fun wx hx => (HIN0.out wx hx).mono fun e w' h => by
        obtain ⟨h1, h2⟩ := h
        rw [hnum] at h2
        exact ⟨h2.1, h2.2, h1⟩
      have HNW : Hid (numW lo hi (l.drop a) = .bad E) := by show _ = _; unfold numW Rd.only; rw [hnum]
      clear hnum hml
      go_enter Tryd.func60, Tryd.ntmps60
      go_wp2
      go_region_held3 (fun wx => Below w.heap.size w wx ∧ wx.cell? ⟨R, 0, none⟩ = some (.slice p m c) ∧ wx.cell? ⟨R, 1, none⟩ = some (.int .i64 a))
        ((refine HS.out _ ?_; first | assumption | exact Below.refl _ _ | exact (Below.refl _ _).drew | exact held_below (by assumption)))
        (first | (go_at_call 25; refine (HIN.out _ (held_below (by assumption))).mono ?_; rintro e w1 ⟨rfl, hE, hb1⟩; have hB1 : Below w.heap.size w w1 := held_on (by assumption) hb1))
      all_goals
        have dE : (E != 0) = true := by simpa using hE
        have HA1 := Lib.hid (HBW.out w1 hB1)
        have HE := Lib.hid hE
        clear hE c0 c1 c2 z1 z2
        go_wp2_with fail
        refine (fault_dem R sv m a 0 E w1 HA1.out.r HA1.out.le).mono ?_
        rintro e w2 ⟨rfl, f2, haf2, _, _, hd3⟩
        have HA2 := Lib.hid (HA1.out.trans haf2)
        obtain rfl := (hd3 rfl rfl)
        clear haf2 hd3
        go_wp2
        go_ret
        exact ⟨0, a, f2, rfl, by unfold I64; omega, by rw [← HM.out]; exact HA2.out, .inr ⟨rfl, by rw [HNW.out]; exact ⟨rfl, HE.out⟩⟩⟩
    | ok n k =>
      have HIN : Hid (∀ wx, Below w.heap.size w wx → Calls Tryd.prog 25 #[.slice (restP p a c) (m - a) (c - a)] wx (fun e w' => e = .returned (.tuple #[.int .i64 n, .int .i64 k, .int .i64 0]) ∧ Below wx.heap.size wx w')) := fun wx hx => (HIN0.out wx hx).mono fun e w' h => by
        obtain ⟨h1, h2⟩ := h
        rw [hnum] at h2
        exact ⟨h2, h1⟩
      obtain ⟨hi64, hk, _⟩ := num_form.back _ n k hnum
      rw [List.length_drop] at hk
      have HAK : Hid (a + k ≤ m) := by show _ ≤ _; omega
      have HI := Lib.hid hi64
      have HNW : Hid (numW lo hi (l.drop a) = if (decide (lo ≤ n) && decide (n ≤ hi)) = true then .ok n k else .bad 31) := by
        show _ = _
        unfold numW Rd.only
        rw [hnum]
      have hak : a + k ≤ 9223372036854775807 := by omega
      clear hnum hml hi64 hk
      go_enter Tryd.func60, Tryd.ntmps60
      go_wp2
      go_region_held3 (fun wx => Below w.heap.size w wx ∧ wx.cell? ⟨R, 0, none⟩ = some (.slice p m c) ∧ wx.cell? ⟨R, 1, none⟩ = some (.int .i64 a))
        ((refine HS.out _ ?_; first | assumption | exact Below.refl _ _ | exact (Below.refl _ _).drew | exact held_below (by assumption)))
        (first | (go_at_call 25; refine (HIN.out _ (held_below (by assumption))).mono ?_; rintro e w1 ⟨rfl, hb1⟩; have hB1 : Below w.heap.size w w1 := held_on (by assumption) hb1))
      all_goals
        have HA1 := Lib.hid (HBW.out w1 hB1)
        clear c0 c1 c2 z1 z2
        obtain ⟨c0, c1, c2, z1, z2⟩ := HA1.out.r
        go_upto_region 8 with fail
        have HF2 : Hid (After w (w1.setCell ⟨R, 1, none⟩ (.int .i64 ((a + k : Nat) : Int))) R sv m (a + k) 0) := HA1.out.at HAK.out
        obtain ⟨w2, hw2⟩ : ∃ w2, w2 = w1.setCell ⟨R, 1, none⟩ (.int .i64 ((a + k : Nat) : Int)) := ⟨_, rfl⟩
        first | rw [← hw2] at HF2 ⊢ | (rw [Int.natCast_add] at hw2; rw [← hw2]; rw [Int.natCast_add, ← hw2] at HF2)
        clear hw2 c0 c1 c2 z1 z2
        by_cases hlo : lo ≤ n
        · have d1 : decide (n < lo) = false := by simp; omega
          by_cases hhi : n ≤ hi
          · have d2 : decide (hi < n) = false := by simp; omega
            have HC : Hid (numW lo hi (l.drop a) = .ok n k) := by show _ = _; rw [HNW.out, decide_eq_true hlo, decide_eq_true hhi]; rfl
            clear hlo hhi
            go_wp2
            go_ret
            exact ⟨n, a + k, 0, rfl, HI.out, by rw [← HM.out]; exact HF2.out, .inr ⟨rfl, by rw [HC.out]; exact ⟨rfl, rfl, rfl⟩⟩⟩
          · have d2 : decide (hi < n) = true := by simp; omega
            have HC : Hid (numW lo hi (l.drop a) = .bad 31) := by show _ = _; rw [HNW.out, decide_eq_false hhi, Bool.and_false]; rfl
            clear hlo hhi
            go_wp2_with fail
            refine (fault_dem R sv m (a + k) 0 31 w2 HF2.out.r HF2.out.le).mono ?_
            rintro e w3 ⟨rfl, f2, haf2, _, _, hd3⟩
            have HA3 := Lib.hid (HF2.out.trans haf2)
            obtain rfl := (hd3 rfl rfl)
            clear haf2 hd3
            go_wp2
            go_ret
            exact ⟨0, a + k, 31, rfl, by unfold I64; omega, by rw [← HM.out]; exact HA3.out, .inr ⟨rfl, by rw [HC.out]; exact ⟨rfl, by decide⟩⟩⟩
        · have d1 : decide (n < lo) = true := by simp; omega
          have HC : Hid (numW lo hi (l.drop a) = .bad 31) := by show _ = _; rw [HNW.out, decide_eq_false hlo, Bool.false_and]; rfl
          clear hlo
          go_wp2_with fail
          refine (fault_dem R sv m (a + k) 0 31 w2 HF2.out.r HF2.out.le).mono ?_
          rintro e w3 ⟨rfl, f2, haf2, _, _, hd3⟩
          have HA3 := Lib.hid (HF2.out.trans haf2)
          obtain rfl := (hd3 rfl rfl)
          clear haf2 hd3
          go_wp2
          go_ret
          exact ⟨0, a + k, 31, rfl, by unfold I64; omega, by rw [← HM.out]; exact HA3.out, .inr ⟨rfl, by rw [HC.out]; exact ⟨rfl, by decide⟩⟩⟩
  · have df : (f != 0) = true := by simpa using hf
    have HF := Lib.hid hf
    obtain ⟨c0, c1, c2, z1, z2⟩ := hr
    clear hf hsv
    go_enter Tryd.func60, Tryd.ntmps60
    go_wp2
    go_ret
    exact ⟨0, a, f, rfl, by unfold I64; omega, HAF.out, .inl ⟨HF.out, rfl⟩⟩
end Go.Proofs.YtlinpkmfjkcoiaaDoor
