/- The laws' own function number. -/
import Derived.Test.YtlinpkmfjkcoiaaDoorH4
import Derived.Deep.RegionHeld3
import Derived.Deep.CutBlock
import Derived.Deep.DeepCutAuto
import Derived.Deep.CutRange
import Derived.Deep.RegionLaw
namespace Go.Proofs.YtlinpkmfjkcoiaaDoor
open Go Go.RowKit
set_option maxHeartbeats 1000000
set_option linter.unusedVariables false
set_option linter.unusedSimpArgs false
attribute [local go_sem ↓] run_front
set_option maxRecDepth 100000 in
theorem number_l (l : List UInt8) (p : Option Addr) (c : Nat) (w : World) (h : In w p l) (hc : l.length ≤ c) (hm : c ≤ maxLen) :
    Calls Tryd.prog 13 #[.slice p l.length c] w fun e w' => e = .returned (.bool true) ∧ Below w.heap.size w w' := by
  have HI := Lib.hid h
  have hint := int_any p c l w h hc hm
  have HINT : Hid (∀ (wx : World) (k : Nat), In wx p (l.take k) → k ≤ l.length → Calls Tryd.prog 15 #[.slice p k c] wx (IntIs wx (l.take k))) := fun wx k h1 h2 => by
    have := int_any p c (l.take k) wx h1 (by rw [List.length_take]; omega) hm
    rw [List.length_take, Nat.min_eq_left h2] at this
    exact this
  have HSAME : Hid (∀ (wx : World) (p1 p2 : Option Addr) (n1 n2 c1 c2 : Nat) (l' : List UInt8), In wx p1 l' → In wx p2 l' → n1 = l'.length → n2 = l'.length → l'.length ≤ maxLen → Calls Tryd.prog 22 #[.slice p1 n1 c1, .slice p2 n2 c2] wx fun e w' => e = .returned (.bool true) ∧ Below wx.heap.size wx w') := fun wx p1 p2 n1 n2 c1 c2 l' h1 h2 e1 e2 hm => by subst e1; subst e2; exact same_true l' p1 p2 c1 c2 wx h1 h2 hm
  obtain ⟨m, hml⟩ : ∃ m, m = l.length := ⟨_, rfl⟩
  have HM := Lib.hid hml
  rw [← hml] at hint hc ⊢
  unfold maxLen at hm
  clear h hml
  go_enter Tryd.func13, Tryd.ntmps13
  go_wp2_with fail
  refine hint.mono ?_
  rintro e w1 ⟨hb1, hi⟩
  have HB1 := Lib.hid hb1
  clear hint hb1
  cases hr : num l with
  | bad E =>
    rw [hr] at hi
    obtain ⟨rfl, hE⟩ := hi
    have d0 : (E != 0) = true := by simpa using hE
    clear hE hr
    go_wp2
    go_ret
    exact ⟨rfl, HB1.out⟩
  | ok n k =>
    rw [hr] at hi
    obtain ⟨hn64, hk, htk⟩ := num_form.back l n k hr
    have hk1 : 1 ≤ k := by
      have h1 := congrArg List.length htk
      have h2 := grp_pos (zig n)
      rw [List.length_take, Nat.min_eq_left hk] at h1
      unfold put at h1
      omega
    have HN := Lib.hid hn64
    have HTK := Lib.hid htk
    have HKL : Hid (k = (put n).length) := by show _ = _; rw [← htk, List.length_take, Nat.min_eq_left hk]
    have hkm : k ≤ m := by rw [HM.out]; exact hk
    have hI1 := Lib.hid (HI.out.below HB1.out)
    obtain rfl := hi
    have d1 : decide ((k : Int) < 1) = false := by simp; omega
    have d2 : decide (m < k) = false := by simp; omega
    have hkc : k ≤ c := by omega
    clear hr htk hn64 hk
    go_upto_region 4 with fail
    have HPUT : Hid (∀ wx, Below w1.heap.size w1 wx → Calls Tryd.prog 14 #[.int .i64 n] wx fun e w' => ∃ q d, e = .returned (.slice q (put n).length d) ∧ Below w1.heap.size w1 w' ∧ In w' q (put n)) := fun wx hx => (putInt_any n HN.out wx).mono fun e w' ⟨q, d, he, ho, hw⟩ => ⟨q, d, he, hx.trans ((hw.below (Out.nil wx wx.heap.size) (Nat.le_refl _)).mono hx.size), ho.inn.1⟩
    have HSM : Hid (∀ wx q d, Below w1.heap.size w1 wx → In wx q (put n) → Calls Tryd.prog 22 #[.slice q (put n).length d, .slice p k c] wx fun e w' => e = .returned (.bool true) ∧ Below w1.heap.size w1 w') := fun wx q d hx hq => (HSAME.out wx q p (put n).length k d c (put n) hq (by have := (hI1.out.below hx).take k; rw [HTK.out] at this; exact this) rfl HKL.out (by have := put_len HN.out; unfold maxLen; omega)).mono fun e w' ⟨he, hb⟩ => ⟨he, hx.trans (hb.mono hx.size)⟩
    go_cut [34] from 18 to 34 (fun s wx => s = .bool false ∧ Below w1.heap.size w1 wx)
    case first =>
      have f1 : (0 : Int) ≤ (k : Int) := by omega
      have f2 : (k : Int) ≤ (c : Int) := by omega
      clear hm hc hkm
      go_region_held3 (fun wx => Below w1.heap.size w1 wx) ((first | assumption | exact Below.refl _ _ | (apply Below.drew; assumption) | exact (Below.refl _ _).drew))
        (first | (go_at_call 14; refine (HPUT.out _ (by assumption)).mono ?_; rintro e w2 ⟨q, d, rfl, hb2, hin2⟩) | (go_at_call 22; refine (HSM.out _ _ _ (by assumption) (by assumption)).mono ?_; rintro e w3 ⟨rfl, hb3⟩))
      all_goals
        go_wp2
        go_meet
        exact ⟨rfl, by assumption⟩
    case rest =>
    obtain ⟨rfl, hwb⟩ := hcut
    have HBW : Hid (Below w.heap.size w wc) := HB1.out.trans (hwb.mono HB1.out.size)
    have hIC := Lib.hid (hI1.out.below hwb)
    have HSH : Hid (∀ i, i < k → num (l.take i) = .bad 30) := fun i hi => by
      have h1 := num_form.short n HN.out i (by rw [← HKL.out]; exact hi)
      rw [← HTK.out, List.take_take, Nat.min_eq_left (by omega)] at h1
      exact h1
    obtain ⟨wq, hwq⟩ : ∃ x, x = wc := ⟨_, rfl⟩
    rw [← hwq] at HBW hIC ⊢
    clear hwb hwq d1 d2
    go_wp2
    go_loopw [6] (fun i wr => ∃ j : Nat, j ≤ k ∧ i = .int .i64 j ∧ Below wq.heap.size wq wr) (fun i _ => k - (intOf i).toNat)
    case atStart => exact ⟨0, Nat.zero_le _, rfl, Below.refl _ _⟩
    case round =>
      obtain ⟨j, hj, rfl, hb⟩ := hrel
      have HB := Lib.hid hb
      clear hb
      by_cases hlt : j < k
      · have dl : decide (j < k) = true := by simpa using hlt
        have hjc : j ≤ c := by omega
        have hcall := HINT.out wr j ((hIC.out.below HB.out).take j) (by have := HM.out; omega)
        go_wp2_with fail
        refine hcall.mono ?_
        rintro e w5 ⟨hb5, hi5⟩
        rw [HSH.out j hlt] at hi5
        obtain ⟨rfl, _⟩ := hi5
        have HB5 : Hid (Below wq.heap.size wq w5) := HB.out.trans (hb5.mono HB.out.size)
        clear hb5
        go_wp2
        go_roundw
        case rel => exact ⟨j + 1, by omega, by go_num, HB5.out⟩
        case measure => simp [intOf]; omega
      · have dl : decide (j < k) = false := by simpa using hlt
        go_wp2
        go_ret
        exact ⟨rfl, HBW.out.trans (HB.out.mono HBW.out.size)⟩
end Go.Proofs.YtlinpkmfjkcoiaaDoor
