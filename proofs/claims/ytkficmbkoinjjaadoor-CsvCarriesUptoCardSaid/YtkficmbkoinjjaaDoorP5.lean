/- Texts that are handed in. -/
import Derived.Test.YtkficmbkoinjjaaDoorK5
import Derived.Deep.Slices
import Derived.SliceStrings
namespace Go.Proofs.YtkficmbkoinjjaaDoor
open Go Go.ChangeShapes Go.WideShapes Go.ChangeAt Go.RowKit Go.Deep
set_option maxHeartbeats 400000
set_option linter.unusedVariables false
set_option maxRecDepth 100000 in
theorem open_texts {H : Type} {enc : TypeId × Value → H} {w : World} {held : Bool} {v : Value} {d : DataW H} {ps : List MemPlace} {r : Reach} {b0 : Nat} (hv : Value.okWide Tryd.prog w r b0 27 v)
    (h : DataW.Trod enc Tryd.prog w 0 (fun _ => true) held 27 v d ps) : ∃ p len cap, v = .slice p len cap ∧ len ≤ maxLen ∧ Texts w p len := by
  obtain ⟨p, len, cap, rfl⟩ := okWide_slice Tryd.underlying27 hv
  obtain ⟨fuel, hf⟩ := h
  simp only [Value.cells] at hf
  refine ⟨p, len, cap, rfl, ?_⟩
  rcases open_strings Tryd.underlying27 (by kernel_rfl) (by kernel_rfl) hf with ⟨h0, _⟩ | ⟨a, l, c, ss, h0, _, hl, hm, hmm, _, hi, _⟩
  · simp only [List.cons.injEq, Value.slice.injEq, and_true] at h0
    obtain ⟨rfl, rfl, rfl⟩ := h0
    exact ⟨Nat.zero_le _, fun i hi => absurd hi (Nat.not_lt_zero _)⟩
  · simp only [List.cons.injEq, Value.slice.injEq, and_true] at h0
    obtain ⟨rfl, rfl, rfl⟩ := h0
    refine ⟨Nat.le_trans hl hm, fun i him => ?_⟩
    have x0 := hi i (by rw [hmm]; simp; omega)
    have y0 := hi 0 (by rw [hmm]; simp; omega)
    obtain ⟨b, o, spot⟩ := a
    have hspot : spot = none := by simpa [Addr.add] using World.cell?_spot y0
    subst hspot
    exact ⟨b, o, _, rfl, by rw [Addr.add_lit] at x0; exact x0⟩
end Go.Proofs.YtkficmbkoinjjaaDoor
