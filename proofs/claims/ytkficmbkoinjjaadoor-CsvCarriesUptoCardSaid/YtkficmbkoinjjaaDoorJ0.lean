/- Cells as they are written: plain facts; what replaces each quote by two. -/
import Derived.Test.YtkficmbkoinjjaaDoorP1
import Derived.Lib.Replace
import Derived.Lib.SplitLaws
import Derived.Lib.IndexBytes
import Derived.Lib.IndexLaws
namespace Go.Proofs.YtkficmbkoinjjaaDoor
open Go
set_option maxHeartbeats 1000000
set_option linter.unusedVariables false
set_option linter.unusedSimpArgs false
/-- each quote twice -/
def esc : Cell → List UInt8
  | [] => []
  | b :: t => if b = 34 then 34 :: 34 :: esc t else b :: esc t
theorem esc_len : ∀ l, (esc l).length = l.length + l.count 34
  | [] => rfl
  | b :: t => by
    have ih := esc_len t
    unfold esc
    by_cases h : b = 34
    · subst h; rw [if_pos rfl]; simp [ih]; omega
    · rw [if_neg h, List.count_cons_of_ne h]; simp [ih]; omega
theorem replace_esc : ∀ (l : List UInt8) (k : Nat), k = l.count 34 → Lib.replaceK [34] [34, 34] k l = esc l
  | [], k, h => by simp at h; subst h; rfl
  | b :: t, k, h => by
    by_cases hb : b = 34
    · subst hb
      rw [List.count_cons_self] at h
      subst h
      have hi : Lib.index (34 :: t) [34] = (0 : Nat) := by simp [Lib.index, List.isPrefixOf]
      rw [Lib.replaceK_hit _ _ _ _ 0 hi]
      have ih := replace_esc t (t.count 34) rfl
      simp [esc, ih]
    · rw [List.count_cons_of_ne hb] at h
      have ih := replace_esc t k h
      have he : esc (b :: t) = b :: esc t := by simp [esc, hb]
      rw [he, ← ih]
      cases k with
      | zero => rfl
      | succ k =>
        have hpos : 0 < Lib.count t [34] := by rw [Lib.count_one]; omega
        obtain ⟨i, hi⟩ := Lib.index_of_count hpos
        have hi2 : Lib.index (b :: t) [34] = ((i + 1 : Nat) : Int) := by
          have hb2 : ¬ ((34 : UInt8) = b) := fun e => hb e.symm
          simp only [Lib.index, List.isPrefixOf]
          simp [hb2, hi]
        rw [Lib.replaceK_hit _ _ _ _ _ hi, Lib.replaceK_hit _ _ _ _ _ hi2]
        simp [List.take_succ_cons]
theorem replaceAll_esc (l : List UInt8) : Lib.replaceAll l [34] [34, 34] = esc l := by
  unfold Lib.replaceAll Lib.replace
  rw [if_neg (by decide)]
  refine replace_esc l _ ?_
  unfold Lib.replaceNum
  rw [if_pos (by left; decide), Lib.count_one]
/-- a cell as it is written -/
def cellW (c : Cell) : List UInt8 := if c.any odd then 34 :: (esc c ++ [34]) else c
theorem cellW_len (c : Cell) : (cellW c).length ≤ 2 * c.length + 2 := by
  unfold cellW
  split
  · have := esc_len c
    have := List.count_le_length (a := (34 : UInt8)) (l := c)
    simp
    omega
  · omega
theorem any_index (c : Cell) : decide (0 ≤ Lib.indexAny c [44, 34, 13, 10]) = c.any odd := by
  induction c with
  | nil => rfl
  | cons b t ih =>
    rw [List.any_cons]
    unfold Lib.indexAny
    by_cases hb : ([44, 34, 13, 10] : List UInt8).contains b = true
    · rw [if_pos hb]
      have : odd b = true := hb
      rw [this]
      rfl
    · rw [if_neg hb]
      have h0 : odd b = false := by unfold odd; simpa using hb
      rw [h0, Bool.false_or, ← ih]
      have h3 := Lib.indexAny_ge [44, 34, 13, 10] t
      by_cases hn : Lib.indexAny t [44, 34, 13, 10] = -1
      · rw [if_pos (by simp [hn]), hn]
      · rw [if_neg (by simp [hn])]
        congr 1
        apply propext
        constructor <;> intro _ <;> omega
end Go.Proofs.YtkficmbkoinjjaaDoor
