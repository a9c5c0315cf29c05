/- Contract of package schema's fault: what is wrong with a type. -/
import Derived.Test.YtpfpganlghjhjaaDoorA4
import Derived.Deep.RegionHeld3
import Derived.Deep.DeepCutAuto
import Derived.Deep.CutRange
namespace Go.Proofs.YtpfpganlghjhjaaDoor
open Go Go.RowKit
set_option maxHeartbeats 2000000
set_option linter.unusedVariables false
set_option linter.unusedSimpArgs false
theorem held_below {n : Nat} {a w : World} {A : Prop} (h : Below n a w ∧ A) : Below n a w := h.1
theorem held_on {a w w' : World} {A : Prop} (h : Below a.heap.size a w ∧ A) (hb : Below w.heap.size w w') : Below a.heap.size a w' := h.1.trans (hb.mono h.1.size)
/-- what is wrong with an attribute behind those -/
def faultA (done : List (ByteArray × Int)) (a : ByteArray × Int) : Int := if attrL a.1.toList = false then 20 else if isK a.2 = false then 24 else if hasN done a.1.toList = true then 5 else 0
def faultAt (l : List (ByteArray × Int)) (k : Nat) : Int := match l[k]? with | some a => faultA (l.take k) a | none => 0
theorem faultAt_is {l : List (ByteArray × Int)} {k : Nat} (h : k < l.length) : faultAt l k = faultA (l.take k) l[k] := by
  unfold faultAt
  rw [List.getElem?_eq_getElem h]
/-- what is wrong with a type -/
def FaultIs (name : List UInt8) (l : List (ByteArray × Int)) (E : Int) : Prop :=
  (nameL name = false ∧ E = 20) ∨ (nameL name = true ∧ 16 < l.length ∧ E = 2) ∨ (nameL name = true ∧ l.length ≤ 16 ∧ E = 0 ∧ ∀ k, k < l.length → faultAt l k = 0) ∨
    (nameL name = true ∧ l.length ≤ 16 ∧ ∃ k, k < l.length ∧ faultAt l k = E ∧ E ≠ 0 ∧ ∀ j, j < k → faultAt l j = 0)
set_option maxRecDepth 100000 in
theorem fault_any (name : ByteArray) (l : List (ByteArray × Int)) (p : Option Addr) (c : Nat) (hc : l.length ≤ c) (hm : c ≤ maxLen) (w : World) (hK : Kw w) (hr : AtRow w p l) :
    Calls Tryd.prog 19 #[.agg #[.string name, .slice p l.length c]] w fun e w' => ∃ E, e = .returned (.int .i64 E) ∧ Below w.heap.size w w' ∧ FaultIs name.toList l E := by
  obtain ⟨n, hn⟩ : ∃ n, n = l.length := ⟨_, rfl⟩
  rw [← hn] at hc ⊢
  have HR := Lib.hid hr
  have HK := Lib.hid hK
  have HNL := Lib.hid hn
  unfold maxLen at hm
  clear hr hK hn
  have H0 : Hid (∀ o, Below w.heap.size w (w.alloc o)) := fun o => (Below.refl _ _).alloc (Nat.le_refl _) _
  cases hname : nameL name.toList
  · have HNM := Lib.hid hname
    go_enter Tryd.func19, Tryd.ntmps19
    go_wp2_with (go_at_call 16; refine (name_any _ _ (HK.out.below (H0.out _))).mono ?_; rintro e w1 ⟨rfl, hb1⟩)
    go_ret
    exact ⟨20, rfl, (H0.out _).trans (hb1.mono (by simp)), .inl ⟨HNM.out, rfl⟩⟩
  · have HNM := Lib.hid hname
    by_cases h16 : n ≤ 16
    · have d16 : decide ((16 : Int) < (n : Int)) = false := by simp; omega
      go_enter Tryd.func19, Tryd.ntmps19
      go_wp2_with (go_at_call 16; refine (name_any _ _ (HK.out.below (H0.out _))).mono ?_; rintro e w1 ⟨rfl, hb1⟩; obtain ⟨hc1, hf1⟩ := bcell hb1)
      have z1 : w.heap.size < w1.heap.size := by have := hb1.size; simp at this; omega
      have HB1 : Hid (Below (w.heap.size + 1) (w.alloc (Obj.cells #[.string name, .slice p n c] 27)) w1) := by
        show Below _ _ _
        have := hb1
        simp at this
        exact this
      clear hb1
      go_loopw [16] (fun i wr => ∃ k : Nat, k ≤ n ∧ i = .int .i64 k ∧ Below (w.heap.size + 1) (w.alloc (Obj.cells #[.string name, .slice p n c] 27)) wr ∧ ∀ j, j < k → faultAt l j = 0) (fun i _ => n - (intOf i).toNat)
      case atStart => exact ⟨0, Nat.zero_le _, rfl, HB1.out, fun j hj => absurd hj (Nat.not_lt_zero _)⟩
      case round =>
        obtain ⟨k, hk, rfl, hb, hno⟩ := hrel
        clear hc1 hf1
        have zs := hb.size
        simp at zs
        have hcb := (bcell hb).1
        have HB := Lib.hid hb
        have HNO := Lib.hid hno
        have HBW : Hid (Below w.heap.size w wr) := (H0.out _).trans (hb.mono (by omega))
        clear hb hno
        by_cases hlt : k < n
        · have hkl : k < l.length := by rw [← HNL.out]; exact hlt
          obtain ⟨b, o, rfl, c0, c1⟩ := HR.out k hkl
          have z0 := lt_of_cell c0
          have d0 := (HBW.out.cell (p := ⟨b, o + k * 2, none⟩) (by exact z0)).trans c0
          have d1 := (HBW.out.cell (p := ⟨b, o + k * 2 + 1, none⟩) (by exact z0)).trans c1
          clear c0 c1
          obtain ⟨nm, hnm⟩ : ∃ nm, nm = l[k].1 := ⟨_, rfl⟩
          obtain ⟨kd, hkd⟩ : ∃ kd, kd = l[k].2 := ⟨_, rfl⟩
          rw [← hnm] at d0
          rw [← hkd] at d1
          have HA : Hid (faultAt l k = faultA (l.take k) (nm, kd)) := by show _ = _; rw [faultAt_is hkl, hnm, hkd]
          clear hnm hkd
          have t0 : wr.cell? ⟨w.heap.size, 1, none⟩ = some (.slice (some ⟨b, o, none⟩) n c) := by rw [hcb _ 1 (by omega)]; simp [go_sem]
          clear hcb
          have HW1 : Hid (∀ o, Kw (wr.alloc o)) := fun o => HK.out.below (HBW.out.alloc HBW.out.size o)
          cases ha : attrL nm.toList
          · have HAT := Lib.hid ha
            go_wp2_with (go_at_call 31; refine (attrName_any _ _ (HW1.out _)).mono ?_; rintro e w2 ⟨rfl, hb2⟩; obtain ⟨hc2, hf2⟩ := bcell hb2)
            go_ret
            refine ⟨20, rfl, (HBW.out.alloc HBW.out.size _).trans (hb2.mono (by simp; omega)), .inr (.inr (.inr ⟨HNM.out, by rw [← HNL.out]; exact h16, k, hkl, ?_, by decide, HNO.out⟩))⟩
            rw [HA.out]
            unfold faultA
            rw [if_pos HAT.out]
          · have HAT := Lib.hid ha
            cases hi : isK kd
            · have HI := Lib.hid hi
              go_wp2_with (first | (go_at_call 31; refine (attrName_any _ _ (HW1.out _)).mono ?_; rintro e w2 ⟨rfl, hb2⟩; obtain ⟨hc2, hf2⟩ := bcell hb2) | (go_at_call 32; refine (isKind_any _ _).mono ?_; rintro e w' ⟨rfl, hw'⟩; obtain rfl := hw'.symm))
              go_ret
              refine ⟨24, rfl, (HBW.out.alloc HBW.out.size _).trans (hb2.mono (by simp; omega)), .inr (.inr (.inr ⟨HNM.out, by rw [← HNL.out]; exact h16, k, hkl, ?_, by decide, HNO.out⟩))⟩
              rw [HA.out]
              unfold faultA
              rw [if_neg (by rw [HAT.out]; decide), if_pos HI.out]
            · have HI := Lib.hid hi
              go_wp2_with (first | (go_at_call 31; refine (attrName_any _ _ (HW1.out _)).mono ?_; rintro e w2 ⟨rfl, hb2⟩; obtain ⟨hc2, hf2⟩ := bcell hb2) | (go_at_call 32; refine (isKind_any _ _).mono ?_; rintro e w' ⟨rfl, hw'⟩; obtain rfl := hw'.symm))
              have hB2 : Below w.heap.size w w2 := (HBW.out.alloc HBW.out.size _).trans (hb2.mono (by simp; omega))
              have HB2 : Hid (Below (w.heap.size + 1) (w.alloc (Obj.cells #[.string name, .slice (some ⟨b, o, none⟩) n c] 27)) w2) := (HB.out.alloc (by omega) _).trans (hb2.mono (by simp; omega))
              have x0 : w2.cell? ⟨w.heap.size, 1, none⟩ = some (.slice (some ⟨b, o, none⟩) n c) := by rw [hc2 _ 1 (by simp; omega), World.cell?_alloc_past _ _ _ (by exact zs)]; exact t0
              have x1 : w2.cell? ⟨wr.heap.size, 0, none⟩ = some (.string nm) := by rw [hc2 _ 0 (by simp)]; simp [go_sem]
              have zz := hb2.size
              simp at zz
              have z21 : w.heap.size < w2.heap.size := by omega
              have z22 : wr.heap.size < w2.heap.size := by omega
              have v0 : (0 : Int) ≤ (k : Int) := by omega
              have v1 : (k : Int) ≤ (c : Int) := by omega
              have HS : Hid (∀ wx, Below w2.heap.size w2 wx → Below w2.heap.size w2 wx ∧ wx.cell? ⟨w.heap.size, 1, none⟩ = some (.slice (some ⟨b, o, none⟩) n c) ∧ wx.cell? ⟨wr.heap.size, 0, none⟩ = some (.string nm)) := fun wx hx => ⟨hx, (hx.cell (p := ⟨w.heap.size, 1, none⟩) z21).trans x0, (hx.cell (p := ⟨wr.heap.size, 0, none⟩) z22).trans x1⟩
              have HR2 : Hid (AtRow w2 (some ⟨b, o, none⟩) l) := HR.out.below hB2
              have HBX := Lib.hid hB2
              clear hc2 hf2 hb2 hB2
              have HKL := Lib.hid hkl
              go_region_held3 (fun wx => Below w2.heap.size w2 wx ∧ wx.cell? ⟨w.heap.size, 1, none⟩ = some (.slice (some ⟨b, o, none⟩) n c) ∧ wx.cell? ⟨wr.heap.size, 0, none⟩ = some (.string nm))
                ((refine HS.out _ ?_; first | assumption | exact (Below.refl _ _).drew | exact held_below (by assumption)))
                (first | (go_at_call 33; refine (has_any l _ k c nm (by omega) (by unfold maxLen; omega) _ (HR2.out.below (held_below (by assumption)))).mono ?_; rintro e w9 ⟨rfl, hb9⟩; have hB9 : Below w2.heap.size w2 w9 := held_on (by assumption) hb9))
              all_goals
                cases hh : hasN (l.take k) nm.toList
                · have HH := Lib.hid hh
                  go_wp2
                  go_roundw
                  case rel =>
                    refine ⟨k + 1, by omega, by go_num, HB2.out.trans (hB9.mono (by omega)), fun j hj => ?_⟩
                    by_cases hjk : j = k
                    · subst hjk
                      rw [HA.out]
                      unfold faultA
                      rw [if_neg (by rw [HAT.out]; decide), if_neg (by rw [HI.out]; decide), if_neg (by rw [HH.out]; decide)]
                    · exact HNO.out j (by omega)
                  case measure => simp [intOf]; omega
                · have HH := Lib.hid hh
                  go_wp2
                  go_ret
                  refine ⟨5, rfl, HBX.out.trans (hB9.mono (by omega)), .inr (.inr (.inr ⟨HNM.out, by rw [← HNL.out]; exact h16, k, HKL.out, ?_, by decide, HNO.out⟩))⟩
                  rw [HA.out]
                  unfold faultA
                  rw [if_neg (by rw [HAT.out]; decide), if_neg (by rw [HI.out]; decide), if_pos HH.out]
        · have hkk : k = n := by omega
          subst hkk
          clear hcb
          go_wp2
          go_ret
          exact ⟨0, rfl, HBW.out, .inr (.inr (.inl ⟨HNM.out, by rw [← HNL.out]; exact h16, rfl, fun j hj => HNO.out j (by rw [HNL.out]; exact hj)⟩))⟩
    · have d16 : decide ((16 : Int) < (n : Int)) = true := by simp; omega
      go_enter Tryd.func19, Tryd.ntmps19
      go_wp2_with (go_at_call 16; refine (name_any _ _ (HK.out.below (H0.out _))).mono ?_; rintro e w1 ⟨rfl, hb1⟩; obtain ⟨hc1, hf1⟩ := bcell hb1)
      go_ret
      exact ⟨2, rfl, (H0.out _).trans (hb1.mono (by simp)), .inr (.inl ⟨HNM.out, by rw [← HNL.out]; omega, rfl⟩)⟩
end Go.Proofs.YtpfpganlghjhjaaDoor
