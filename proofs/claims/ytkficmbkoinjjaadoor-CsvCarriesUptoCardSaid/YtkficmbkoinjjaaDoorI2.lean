/- Plain facts: where a text has a byte of ASCII, rune by rune and byte by byte. -/
import Derived.Laws.RangeAny
import Derived.Lib.IndexAny
namespace Go.Proofs.YtkficmbkoinjjaaDoor
open Go
set_option maxHeartbeats 1000000
set_option linter.unusedVariables false
set_option linter.unusedSimpArgs false
theorem get_is (s : ByteArray) (i : Nat) (h : i < s.size) : s.get! i = s[i]'h := by
  have := get_at s i h
  simpa using this
theorem decode_cont (s : ByteArray) (pos : Nat) (h : pos < s.size) (ha : 128 ≤ (s[pos]'h).toNat) : ∀ t, t < (Utf8.decode s pos).2 → pos + t < s.size ∧ 128 ≤ (s.get! (pos + t)).toNat := by
  have h00 : 128 ≤ (s.get! (pos + 0)).toNat := by rw [get_at s pos h]; exact ha
  have hn : ¬ (s.get! (pos + 0)).toNat < 128 := by omega
  intro t
  simp only [Utf8.decode, hn, if_false]
  repeat' split
  all_goals
    intro ht
    simp only [Bool.and_eq_true, decide_eq_true_eq, beq_iff_eq] at *
    have hc : t = 0 ∨ t = 1 ∨ t = 2 ∨ t = 3 := by omega
    rcases hc with rfl | rfl | rfl | rfl
    all_goals first | exact ⟨by omega, by omega⟩ | omega
end Go.Proofs.YtkficmbkoinjjaaDoor
