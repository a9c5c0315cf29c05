/- What the document's own answer guesses of a text: a text that a value has is guessed as that value. -/
import Derived.Test.YtcjibjiojgikjaaDoorP1
import Derived.Test.YtcjibjiojgikjaaDoorR1
namespace Go.Proofs.YtcjibjiojgikjaaDoor
open Go Go.RowKit
set_option linter.unusedVariables false
set_option linter.unusedSimpArgs false
theorem gs_34 {t : ByteArray} {c0 : UInt8} (hh : t.data.toList.head? = some c0) (hc : c0 = 34) {S : ByteArray} (hS : ∀ m, t.data.toList = quoteL m → m = S.data.toList) : GuessIs t 2 0 S false true := by
  refine ⟨fun _ => i64_zero, fun k n s b hn hv he => ?_⟩
  subst hc
  rcases valid_kind hv with rfl | rfl | rfl
  · rw [showT_1 hv] at he
    obtain ⟨c, r, e, hx⟩ := itoa_head n
    rw [he, e] at hh
    simp at hh
    subst hh
    exact absurd hx (by decide)
  · obtain ⟨rfl, rfl⟩ := valid_2' hv
    rw [showT_2 hv] at he
    exact ⟨rfl, rfl, rfl, (bytes_ext (hS _ he)).symm, rfl⟩
  · rw [showT_3 hv] at he
    rw [he] at hh
    cases b <;> simp at hh
theorem gs_84 {t : ByteArray} {c0 : UInt8} (hh : t.data.toList.head? = some c0) (hc : c0 = 84) : GuessIs t 3 0 ⟨#[]⟩ true true := by
  refine ⟨fun _ => i64_zero, fun k n s b hn hv he => ?_⟩
  subst hc
  rcases valid_kind hv with rfl | rfl | rfl
  · rw [showT_1 hv] at he
    obtain ⟨c, r, e, hx⟩ := itoa_head n
    rw [he, e] at hh
    simp at hh
    subst hh
    exact absurd hx (by decide)
  · rw [showT_2 hv, quoteL_eq] at he
    rw [he] at hh
    simp at hh
  · obtain ⟨rfl, rfl⟩ := valid_3' hv
    rw [showT_3 hv] at he
    rw [he] at hh
    cases b
    · simp at hh
    · exact ⟨rfl, rfl, rfl, rfl, rfl⟩
theorem gs_70 {t : ByteArray} {c0 : UInt8} (hh : t.data.toList.head? = some c0) (hc : c0 = 70) : GuessIs t 3 0 ⟨#[]⟩ false true := by
  refine ⟨fun _ => i64_zero, fun k n s b hn hv he => ?_⟩
  subst hc
  rcases valid_kind hv with rfl | rfl | rfl
  · rw [showT_1 hv] at he
    obtain ⟨c, r, e, hx⟩ := itoa_head n
    rw [he, e] at hh
    simp at hh
    subst hh
    exact absurd hx (by decide)
  · rw [showT_2 hv, quoteL_eq] at he
    rw [he] at hh
    simp at hh
  · obtain ⟨rfl, rfl⟩ := valid_3' hv
    rw [showT_3 hv] at he
    rw [he] at hh
    cases b
    · exact ⟨rfl, rfl, rfl, rfl, rfl⟩
    · simp at hh
theorem gs_num {t : ByteArray} {c0 : UInt8} (hh : t.data.toList.head? = some c0) (h1 : c0 ≠ 34) (h2 : c0 ≠ 84) (h3 : c0 ≠ 70) : GuessIs t 1 (gval t.data.toList) ⟨#[]⟩ false true := by
  refine ⟨fun _ => gval_i64 _, fun k n s b hn hv he => ?_⟩
  rcases valid_kind hv with rfl | rfl | rfl
  · obtain ⟨rfl, rfl⟩ := valid_1' hv
    rw [showT_1 hv] at he
    exact ⟨rfl, rfl, by rw [he, gval_itoa n hn], rfl, rfl⟩
  · rw [showT_2 hv, quoteL_eq] at he
    rw [he] at hh
    simp at hh
    exact absurd hh.symm h1
  · rw [showT_3 hv] at he
    rw [he] at hh
    cases b
    · simp at hh
      exact absurd hh.symm h3
    · simp at hh
      exact absurd hh.symm h2
end Go.Proofs.YtcjibjiojgikjaaDoor
