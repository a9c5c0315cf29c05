/- The order of values: plain facts. -/
import Derived.Test.YtcjibjiojgikjaaDoorG1
namespace Go.Proofs.YtcjibjiojgikjaaDoor
open Go Go.RowKit
set_option linter.unusedVariables false
set_option linter.unusedSimpArgs false
/-- three comparisons, of x and y, of y and z, of x and z -/
def Tri (a b c : Int) : Prop := (a = 0 → c = b) ∧ (b = 0 → c = a) ∧ (a = b → c = a)
theorem tri_lex {a1 b1 c1 a2 b2 c2 : Int} (m1 : a1 = -1 ∨ a1 = 0 ∨ a1 = 1) (m2 : b1 = -1 ∨ b1 = 0 ∨ b1 = 1) (h1 : Tri a1 b1 c1) (h2 : Tri a2 b2 c2) :
    Tri (if a1 = 0 then a2 else a1) (if b1 = 0 then b2 else b1) (if c1 = 0 then c2 else c1) := by
  obtain ⟨x1, x2, x3⟩ := h1
  obtain ⟨y1, y2, y3⟩ := h2
  unfold Tri
  rcases m1 with rfl | rfl | rfl <;> rcases m2 with rfl | rfl | rfl <;> simp_all <;> (try split) <;> simp_all <;> omega
theorem tri_cmpI (x y z : Int) : Tri (cmpI x y) (cmpI y z) (cmpI x z) := by
  unfold Tri cmpI
  refine ⟨fun h => ?_, fun h => ?_, fun h => ?_⟩ <;> (repeat' split at h) <;> (repeat' split) <;> omega
theorem cmpI_neg (x y : Int) : cmpI x y = -cmpI y x := by
  unfold cmpI
  (repeat' split) <;> omega
theorem cmpI_zero (x y : Int) : cmpI x y = 0 ↔ x = y := by
  unfold cmpI
  constructor
  · intro h
    (repeat' split at h) <;> omega
  · intro h
    (repeat' split) <;> omega
theorem cmpI_m (a b : Int) : cmpI a b = -1 ∨ cmpI a b = 0 ∨ cmpI a b = 1 := by
  unfold cmpI; split
  · exact .inl rfl
  · split
    · exact .inr (.inr rfl)
    · exact .inr (.inl rfl)
def cmpL (x y : List UInt8) : Int := if Op.bytesLess x y = true then -1 else if x == y then 0 else 1
theorem less_self : ∀ x : List UInt8, Op.bytesLess x x = false
  | [] => rfl
  | a :: x => by simp [Op.bytesLess, less_self x]
theorem cmpL_cons (a b : UInt8) (x y : List UInt8) : cmpL (a :: x) (b :: y) = if cmpI a.toNat b.toNat = 0 then cmpL x y else cmpI a.toNat b.toNat := by
  unfold cmpL cmpI
  by_cases h1 : a < b
  · have h1' : (a.toNat : Int) < b.toNat := by have := UInt8.lt_iff_toNat_lt.1 h1; omega
    simp [Op.bytesLess, h1, h1']
  · by_cases h2 : a = b
    · subst h2
      simp [Op.bytesLess]
    · have h3 : ¬ ((a.toNat : Int) < b.toNat) := fun h => h1 (UInt8.lt_iff_toNat_lt.2 (by omega))
      have h4 : a.toNat ≠ b.toNat := fun h => h2 (UInt8.toNat_inj.1 h)
      have h5 : (b.toNat : Int) < a.toNat := by omega
      simp [Op.bytesLess, h1, h2, h3, h5]
theorem cmpL_m (x y : List UInt8) : cmpL x y = -1 ∨ cmpL x y = 0 ∨ cmpL x y = 1 := by
  unfold cmpL; split
  · exact .inl rfl
  · split
    · exact .inr (.inl rfl)
    · exact .inr (.inr rfl)
theorem cmpL_nil_cons (b : UInt8) (y : List UInt8) : cmpL [] (b :: y) = -1 := rfl
theorem cmpL_cons_nil (a : UInt8) (x : List UInt8) : cmpL (a :: x) [] = 1 := rfl
theorem cmpL_self (x : List UInt8) : cmpL x x = 0 := by unfold cmpL; rw [less_self]; simp
theorem cmpL_neg : ∀ x y : List UInt8, cmpL x y = -cmpL y x
  | [], [] => rfl
  | [], b :: y => rfl
  | a :: x, [] => rfl
  | a :: x, b :: y => by
    rw [cmpL_cons, cmpL_cons, cmpL_neg x y, cmpI_neg a.toNat b.toNat]
    have := cmpI_m b.toNat a.toNat
    (repeat' split) <;> omega
theorem cmpL_zero (x y : List UInt8) : cmpL x y = 0 ↔ x = y := by
  constructor
  · unfold cmpL
    intro h
    split at h
    · omega
    · split at h
      · rename_i h2; exact beq_iff_eq.1 h2
      · omega
  · rintro rfl
    exact cmpL_self x
theorem tri_cmpL : ∀ x y z : List UInt8, Tri (cmpL x y) (cmpL y z) (cmpL x z)
  | [], [], z => by rw [cmpL_self]; exact ⟨fun _ => rfl, fun h => h, fun h => h.symm⟩
  | [], b :: y, [] => by rw [cmpL_nil_cons, cmpL_cons_nil, cmpL_self]; unfold Tri; omega
  | [], b :: y, c :: z => by
    rw [cmpL_nil_cons, cmpL_nil_cons]
    unfold Tri
    omega
  | a :: x, [], [] => by rw [cmpL_cons_nil, cmpL_self]; unfold Tri; omega
  | a :: x, [], c :: z => by
    rw [cmpL_cons_nil, cmpL_nil_cons]
    unfold Tri
    omega
  | a :: x, b :: y, [] => by
    rw [cmpL_cons_nil, cmpL_cons_nil]
    unfold Tri
    omega
  | a :: x, b :: y, c :: z => by
    rw [cmpL_cons, cmpL_cons, cmpL_cons]
    exact tri_lex (cmpI_m _ _) (cmpI_m _ _) (tri_cmpI _ _ _) (tri_cmpL x y z)
theorem cmpS_L (a b : ByteArray) : cmpS a b = cmpL a.data.toList b.data.toList := by
  unfold cmpS cmpL
  rw [ByteArray.toList_eq, ByteArray.toList_eq]
theorem cmpV_neg (k n : Int) (s : ByteArray) (b : Bool) (k' n' : Int) (s' : ByteArray) (b' : Bool) : cmpV k n s b k' n' s' b' = -cmpV k' n' s' b' k n s b := by
  unfold cmpV
  rw [cmpS_L, cmpS_L, cmpI_neg k k', cmpI_neg n n', cmpL_neg s.data.toList s'.data.toList, cmpI_neg (rankB b) (rankB b')]
  (repeat' split) <;> omega
theorem tri_cmpV (k1 n1 : Int) (s1 : ByteArray) (b1 : Bool) (k2 n2 : Int) (s2 : ByteArray) (b2 : Bool) (k3 n3 : Int) (s3 : ByteArray) (b3 : Bool) :
    Tri (cmpV k1 n1 s1 b1 k2 n2 s2 b2) (cmpV k2 n2 s2 b2 k3 n3 s3 b3) (cmpV k1 n1 s1 b1 k3 n3 s3 b3) := by
  unfold cmpV
  rw [cmpS_L, cmpS_L, cmpS_L]
  exact tri_lex (cmpI_m _ _) (cmpI_m _ _) (tri_cmpI _ _ _) (tri_lex (cmpI_m _ _) (cmpI_m _ _) (tri_cmpI _ _ _) (tri_lex (cmpL_m _ _) (cmpL_m _ _) (tri_cmpL _ _ _) (tri_cmpI _ _ _)))
theorem cmpV_zero (k n : Int) (s : ByteArray) (b : Bool) (k' n' : Int) (s' : ByteArray) (b' : Bool) : (cmpV k n s b k' n' s' b' == 0) = veq k n s b k' n' s' b' := by
  rw [Bool.eq_iff_iff, beq_iff_eq]
  unfold cmpV veq
  rw [cmpS_L]
  simp only [Bool.and_eq_true, beq_iff_eq]
  rw [ByteArray.toList_eq, ByteArray.toList_eq]
  have e1 := cmpI_zero k k'
  have e2 := cmpI_zero n n'
  have e3 := cmpL_zero s.data.toList s'.data.toList
  have e4 : cmpI (rankB b) (rankB b') = 0 ↔ b = b' := by
    rw [cmpI_zero]
    cases b <;> cases b' <;> simp [rankB]
  by_cases h1 : cmpI k k' = 0
  · rw [if_pos h1]
    by_cases h2 : cmpI n n' = 0
    · rw [if_pos h2]
      by_cases h3 : cmpL s.data.toList s'.data.toList = 0
      · rw [if_pos h3, e4]
        exact ⟨fun h => ⟨e1.1 h1, e2.1 h2, e3.1 h3, h⟩, fun h => h.2.2.2⟩
      · rw [if_neg h3]
        exact ⟨fun h => absurd h h3, fun h => absurd (e3.2 h.2.2.1) h3⟩
    · rw [if_neg h2]
      exact ⟨fun h => absurd h h2, fun h => absurd (e2.2 h.2.1) h2⟩
  · rw [if_neg h1]
    exact ⟨fun h => absurd h h1, fun h => absurd (e1.2 h.1) h1⟩
end Go.Proofs.YtcjibjiojgikjaaDoor
