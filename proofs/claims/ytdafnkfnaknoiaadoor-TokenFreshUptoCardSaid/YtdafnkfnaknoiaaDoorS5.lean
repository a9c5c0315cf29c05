/- Contracts of token.spelling and token.mayBe. -/
import Derived.Test.YtdafnkfnaknoiaaDoorQ5
import Derived.Test.YtdafnkfnaknoiaaDoorL1
import Derived.Test.YtdafnkfnaknoiaaDoorK4
namespace Go.Proofs.YtdafnkfnaknoiaaDoor
open Go Go.RowKit
set_option maxHeartbeats 1000000
set_option linter.unusedVariables false
set_option linter.unusedSimpArgs false
attribute [local go_sem ↓] run_eql_T run_neq_T
/-- how a token is written -/
def spellL (k : Int) (s : List UInt8) : List UInt8 := if k = 3 then (if s.length ≤ 256 then quoteL s else []) else s
theorem valid_2k (s : ByteArray) : valid 2 0 s false = decide (s.size ≤ 256) := by
  unfold valid
  rw [if_neg (by omega), if_pos rfl, veq_self, Bool.true_and]
  congr 1
  simp
  omega
theorem showT_2k (s : ByteArray) : showT 2 0 s false = if s.data.toList.length ≤ 256 then quoteL s.data.toList else [] := by
  unfold showT
  rw [valid_2k]
  have : s.data.toList.length = s.size := by simp
  rw [this]
  by_cases h : s.size ≤ 256
  · simp [h]
  · simp [h]
theorem spelling_any (k : Int) (s : ByteArray) (a : Int) (w : World) (he : Errs w) : Calls Tryd.prog 23 #[.agg #[.int .i64 k, .string s, .int .i64 a]] w fun e w' => e = .returned (.string ⟨(spellL k s.data.toList).toArray⟩) ∧ Below w.heap.size w w' := by
  by_cases hk : k = 3
  · have HS : Hid (∀ wx, Below w.heap.size w wx → Calls Tryd.prog 38 #[.agg #[.int .i64 2, .int .i64 0, .string s, .bool false]] wx fun e w' => e = .returned (.tuple #[.string ⟨(spellL k s.data.toList).toArray⟩, .int .i64 (showE 2 0 s false)]) ∧ Below w.heap.size w w') := fun wx hx => by
      refine (show_any 2 0 s false i64_zero wx (he.below hx).pow).mono ?_
      rintro e w' ⟨rfl, hb⟩
      rw [showT_2k]
      exact ⟨by rw [spellL, if_pos hk], hx.trans (hb.mono hx.size)⟩
    have hB : Below w.heap.size w w := Below.refl _ _
    obtain ⟨P, hP⟩ : ∃ P : ByteArray, P = ⟨(spellL k s.data.toList).toArray⟩ := ⟨_, rfl⟩
    rw [← hP] at HS ⊢
    clear hP he
    subst hk
    go_enter Tryd.func23, Tryd.ntmps23
    go_wp2_with (go_at_call 38; refine (HS.out _ (by first | assumption | exact hB.alloc (Nat.le_refl _) _ | exact (hB.alloc (Nat.le_refl _) _).alloc (by simp) _)).mono ?_; rintro e w1 ⟨rfl, hb1⟩)
    go_ret
    exact ⟨rfl, hb1⟩
  · have hE : Hid ((⟨(spellL k s.data.toList).toArray⟩ : ByteArray) = s) := by
      show _ = _
      rw [spellL, if_neg hk]
    have hq : (k == 3) = false := by simpa using hk
    have hq2 : (k != 3) = true := by simpa using hk
    clear hk he
    go_enter Tryd.func23, Tryd.ntmps23
    go_wp2
    go_ret
    rw [hE.out]
    refine ⟨rfl, ?_⟩
    repeat (first | exact Below.refl _ _ | apply Below.drew | refine Below.alloc ?_ (by first | omega | (simp; done) | (simp; omega)) _)
end Go.Proofs.YtdafnkfnaknoiaaDoor
