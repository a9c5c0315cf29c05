/- Contract of the document's own answer's Binary, as the program's: binE, binV. -/
import Derived.Test.YtcjibjiojgikjaaDoorE10
namespace Go.Proofs.YtcjibjiojgikjaaDoor
open Go Go.RowKit
set_option maxHeartbeats 2000000
set_option linter.unusedVariables false
theorem bin_close {op k n : Int} {s : ByteArray} {b : Bool} {k' n' : Int} {s' : ByteArray} {b' : Bool} {w : World} {E K N : Int} {S : ByteArray} {T : Bool} (h1 : binE op k n s b k' n' s' b' = E) (h2 : binV op k n s b k' n' s' b' = (K, N, S, T)) (h3 : BinR op k n s b k' n' s' b' w E K N S T) :
    BinR op k n s b k' n' s' b' w (binE op k n s b k' n' s' b') (binV op k n s b k' n' s' b').1 (binV op k n s b k' n' s' b').2.1 (binV op k n s b k' n' s' b').2.2.1 (binV op k n s b k' n' s' b').2.2.2 := by
  rw [h1, h2]
  exact h3
theorem bin_zero {op k n : Int} {s : ByteArray} {b : Bool} {k' n' : Int} {s' : ByteArray} {b' : Bool} {E : Int} (h1 : binE op k n s b k' n' s' b' = E) (h2 : E ≠ 0) : binV op k n s b k' n' s' b' = (0, 0, ⟨#[]⟩, false) := by
  unfold binV
  rw [if_neg (by rw [h1]; exact h2)]
theorem binary_r (op k n : Int) (s : ByteArray) (b : Bool) (k' n' : Int) (s' : ByteArray) (b' : Bool) (hz : s.size ≤ maxLen) (w : World) :
    BinR op k n s b k' n' s' b' w (binE op k n s b k' n' s' b') (binV op k n s b k' n' s' b').1 (binV op k n s b k' n' s' b').2.1 (binV op k n s b k' n' s' b').2.2.1 (binV op k n s b k' n' s' b').2.2.2 := by
  by_cases h : op < 3 ∨ 14 ≤ op
  · have hE : binE op k n s b k' n' s' b' = 11 := by unfold binE; rw [if_pos h]
    exact bin_close hE (bin_zero hE (by decide)) (binary_r1 _ _ _ _ _ _ _ _ _ (by omega) w)
  · by_cases hv : valid k n s b = true ∧ valid k' n' s' b' = true
    · obtain ⟨v1, v2⟩ := hv
      by_cases hk : k = k'
      · subst hk
        have e : binE op k n s b k n' s' b' = if kb (rK op) k = 0 ∨ kb (rK op) k = 0 ∨ k ≠ k then 10 else 0 := by unfold binE; rw [if_neg h, if_pos ⟨v1, v2⟩]
        have ho : op = 3 ∨ op = 4 ∨ op = 5 ∨ op = 6 ∨ op = 7 ∨ op = 8 ∨ op = 9 ∨ op = 10 ∨ op = 11 ∨ op = 12 ∨ op = 13 := by omega
        have err : (kb (rK op) k = 0 ∨ kb (rK op) k = 0 ∨ k ≠ k) → ((k = 3 ∧ (op = 8 ∨ op = 9 ∨ op = 10 ∨ op = 11 ∨ op = 3 ∨ op = 4 ∨ op = 5)) ∨ (k = 2 ∧ (op = 3 ∨ op = 4 ∨ op = 5 ∨ op = 12 ∨ op = 13)) ∨ (k = 1 ∧ (op = 12 ∨ op = 13))) → BinR op k n s b k n' s' b' w (binE op k n s b k n' s' b') (binV op k n s b k n' s' b').1 (binV op k n s b k n' s' b').2.1 (binV op k n s b k n' s' b').2.2.1 (binV op k n s b k n' s' b').2.2.2 := by
          intro hz0 hc
          have hE : binE op k n s b k n' s' b' = 10 := by rw [e, if_pos hz0]
          exact bin_close hE (bin_zero hE (by decide)) (binary_r5 op k n s b n' s' b' hc v1 v2 hz w)
        have rel : ¬ (kb (rK op) k = 0 ∨ kb (rK op) k = 0 ∨ k ≠ k) → 6 ≤ op → op ≤ 11 → ((op = 6 ∧ (k = 1 ∨ k = 2 ∨ k = 3)) ∨ (op = 7 ∧ (k = 1 ∨ k = 2 ∨ k = 3)) ∨ (op = 8 ∧ (k = 1 ∨ k = 2)) ∨ (op = 9 ∧ (k = 1 ∨ k = 2)) ∨ (op = 10 ∧ (k = 1 ∨ k = 2)) ∨ (op = 11 ∧ (k = 1 ∨ k = 2))) → BinR op k n s b k n' s' b' w (binE op k n s b k n' s' b') (binV op k n s b k n' s' b').1 (binV op k n s b k n' s' b').2.1 (binV op k n s b k n' s' b').2.2.1 (binV op k n s b k n' s' b').2.2.2 := by
          intro hz0 h6 h11 hc
          have hE : binE op k n s b k n' s' b' = 0 := by rw [e, if_neg hz0]
          have h5 : ¬ op ≤ 5 := by omega
          exact bin_close hE (by unfold binV; rw [if_pos hE, if_neg h5, if_pos h11]) (binary_r4 op k n s b n' s' b' hc v1 v2 hz w)
        rcases valid_kind v1 with rfl | rfl | rfl <;> rcases ho with rfl | rfl | rfl | rfl | rfl | rfl | rfl | rfl | rfl | rfl | rfl
        all_goals first
          | exact err (by decide) (by decide)
          | exact rel (by decide) (by decide) (by decide) (by decide)
          | (have hE := e.trans (if_neg (by decide))
             exact bin_close hE (by unfold binV; rw [if_pos hE]; rfl) (binary_r6 _ n s b n' s' b' (by decide) v1 v2 hz w))
          | (have hE := e.trans (if_neg (by decide))
             exact bin_close hE (by unfold binV; rw [if_pos hE]; rfl) (binary_r7 _ n s b n' s' b' (by decide) v1 v2 hz w))
          | (have hE := e.trans (if_neg (by decide))
             exact bin_close hE (by unfold binV; rw [if_pos hE]; rfl) (binary_r8 n s b n' s' b' v1 v2 hz w))
      · have hE : binE op k n s b k' n' s' b' = 10 := by unfold binE; rw [if_neg h, if_pos ⟨v1, v2⟩, if_pos (.inr (.inr (Ne.symm hk)))]
        exact bin_close hE (bin_zero hE (by decide)) (binary_r3 op (by omega) k n s b k' n' s' b' v1 v2 hk hz w)
    · have hE : binE op k n s b k' n' s' b' = 12 := by unfold binE; rw [if_neg h, if_neg hv]
      exact bin_close hE (bin_zero hE (by decide)) (binary_r2 op (by omega) k n s b k' n' s' b' hv w)
end Go.Proofs.YtcjibjiojgikjaaDoor
