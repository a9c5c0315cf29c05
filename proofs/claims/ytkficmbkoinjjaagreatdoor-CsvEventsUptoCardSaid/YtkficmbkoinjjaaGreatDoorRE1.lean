/- Contract of the document's own answer's Valid. -/
import Derived.WalkKit
import Derived.WalkSpells
import Derived.WalkLawsBesides
import Derived.Lib.Hide
import Derived.Test.YtkficmbkoinjjaaGreatDoorVG2
namespace Go.Proofs.YtkficmbkoinjjaaGreatDoor.V
open Go Go.RowKit
set_option maxHeartbeats 400000
set_option linter.unusedVariables false
set_option linter.unusedSimpArgs false
theorem valid_r (k n : Int) (s : ByteArray) (b : Bool) (w : World) : Calls Tryz.prog 59 #[.agg #[.int .i64 k, .int .i64 n, .string s, .bool b]] w fun e w' => e = .returned (.bool (valid k n s b)) ∧ Below w.heap.size w w' := by
  have HB : Hid (∀ o, Below w.heap.size w (w.alloc o)) := fun o => (Below.refl _ _).alloc (Nat.le_refl _) o
  by_cases h1 : k = 1
  · subst h1
    have He : Hid (valid 1 n s b = ((s.toList == []) && !b)) := by show _ = _; simp [valid, veq]
    cases hs : (s.toList == []) <;> cases b
    all_goals
      go_enter Tryz.func59, Tryz.ntmps59
      go_wp2
      go_ret
      exact ⟨by rw [He.out, hs]; rfl, HB.out _⟩
  · by_cases h2 : k = 2
    · subst h2
      have He : Hid (valid 2 n s b = ((n == 0) && !b && decide ((s.size : Int) ≤ 256))) := by show _ = _; simp [valid, veq]
      cases hs : (n == 0) <;> cases b <;> cases hl : decide ((s.size : Int) ≤ 256)
      all_goals
        go_enter Tryz.func59, Tryz.ntmps59
        go_wp2
        go_ret
        exact ⟨by rw [He.out, hs, hl]; rfl, HB.out _⟩
    · by_cases h3 : k = 3
      · subst h3
        have He : Hid (valid 3 n s b = ((n == 0) && (s.toList == []))) := by show _ = _; simp [valid, veq]
        cases hs : (n == 0) <;> cases hl : (s.toList == [])
        all_goals
          go_enter Tryz.func59, Tryz.ntmps59
          go_wp2
          go_ret
          exact ⟨by rw [He.out, hs, hl]; rfl, HB.out _⟩
      · have He : Hid (valid k n s b = false) := by show _ = _; unfold valid; rw [if_neg h1, if_neg h2, if_neg h3]
        have q1 : (k == 1) = false := by simp [h1]
        have q2 : (k == 2) = false := by simp [h2]
        have q3 : (k == 3) = false := by simp [h3]
        clear h1 h2 h3
        go_enter Tryz.func59, Tryz.ntmps59
        go_wp2
        go_ret
        exact ⟨by rw [He.out]; rfl, HB.out _⟩
end Go.Proofs.YtkficmbkoinjjaaGreatDoor.V
