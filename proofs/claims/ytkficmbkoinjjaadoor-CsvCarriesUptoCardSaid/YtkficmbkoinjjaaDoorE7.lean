/- The text of an event's row. -/
import Derived.Test.YtkficmbkoinjjaaDoorE1
import Derived.Test.YtkficmbkoinjjaaDoorK4
namespace Go.Proofs.YtkficmbkoinjjaaDoor
open Go Go.RowKit
open V
set_option maxHeartbeats 1000000
set_option linter.unusedVariables false
set_option linter.unusedSimpArgs false
theorem bytes_le {C : List Cell} {B : Nat} (h : ∀ c ∈ C, c.length ≤ B) : bytesOf C ≤ C.length * (2 * B + 4) := by
  induction C with
  | nil => simp [bytesOf]
  | cons c t ih =>
    have h1 := h c (by simp)
    have h2 := ih fun c hc => h c (by simp [hc])
    have e : bytesOf (c :: t) = 2 * c.length + 4 + bytesOf t := by simp [bytesOf]
    rw [e, List.length_cons, Nat.add_mul, Nat.one_mul]
    refine Nat.le_trans ?_ (Nat.add_le_add_right h2 (2 * B + 4))
    omega
/-- the text of a row alone: it is written and read back, or too long, which is so of more than 16 values only -/
theorem row_join {kd : List Int} {tm : Int} {vl : List V4} (h : Fits kd tm vl) :
    (joinF [rowC tm vl] = 2 ∧ 16 < vl.length) ∨ (joinF [rowC tm vl] = 0 ∧ spl (joinT [rowC tm vl]).data.toList = .ok [rowC tm vl]) := by
  have hne : ([rowC tm vl].any (·.isEmpty)) = false := by simp [rowC]
  by_cases hl : 65536 < (joinL [rowC tm vl]).length
  · refine .inl ⟨by unfold joinF; rw [hne, if_neg (by simp), if_pos hl], ?_⟩
    have h1 := join_bytes [rowC tm vl] (by simp [rowC])
    have h2 := bytes_le (row_cells h)
    simp only [List.map_cons, List.map_nil, List.sum_cons, List.sum_nil] at h1
    rw [rowC_len] at h2
    omega
  · have hF : joinF [rowC tm vl] = 0 := by unfold joinF; rw [hne, if_neg (by simp), if_neg hl]
    refine .inr ⟨hF, ?_⟩
    have hT : (joinT [rowC tm vl]).data.toList = joinL [rowC tm vl] := by unfold joinT; rw [if_pos hF]
    rw [hT]
    unfold spl
    rw [if_neg hl, split_join (by simp [rowC])]
end Go.Proofs.YtkficmbkoinjjaaDoor
