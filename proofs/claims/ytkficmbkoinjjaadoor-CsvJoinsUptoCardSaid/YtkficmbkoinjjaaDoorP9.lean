/- A row of lists of rows that is handed in. -/
import Derived.Test.YtkficmbkoinjjaaDoorK6
namespace Go.Proofs.YtkficmbkoinjjaaDoor
open Go Go.ChangeShapes Go.WideShapes Go.ChangeAt Go.RowKit Go.Deep
set_option maxHeartbeats 400000
set_option linter.unusedVariables false
set_option maxRecDepth 100000 in
theorem open_lists {H : Type} {enc : TypeId × Value → H} {w : World} {held : Bool} {v : Value} {d : DataW H} {ps : List MemPlace} {r : Reach} {b0 : Nat} (hv : Value.okWide Tryd.prog w r b0 34 v)
    (h : DataW.Trod enc Tryd.prog w 0 (fun _ => true) held 34 v d ps) (hk : Rows.uptoBulk d ≤ 1048576) : ∃ p len cap, v = .slice p len cap ∧ len ≤ maxLen ∧ Lsts w p len := by
  obtain ⟨p, len, cap, rfl⟩ := okWide_slice Tryd.underlying34 hv
  obtain ⟨fuel, hf⟩ := h
  simp only [Value.cells] at hf
  refine ⟨p, len, cap, rfl, ?_⟩
  rcases open_slice1 Tryd.underlying34 (by kernel_rfl) hf with ⟨h0, _⟩ | ⟨a, l, c, m, n, V, D, Pl, h0, _, hl, hm, hmm, hx, hi⟩
  · simp only [List.cons.injEq, Value.slice.injEq, and_true] at h0
    obtain ⟨rfl, rfl, rfl⟩ := h0
    exact ⟨Nat.zero_le _, fun i hi => absurd hi (Nat.not_lt_zero _)⟩
  · simp only [List.cons.injEq, Value.slice.injEq, and_true] at h0
    obtain ⟨rfl, rfl, rfl⟩ := h0
    simp only [if_true] at hmm
    have hd := congrArg Prod.fst hx
    simp only at hd
    refine ⟨Nat.le_trans hl hm, fun i him => ?_⟩
    obtain ⟨b, o, spot⟩ := a
    have hspot : spot = none := by simpa [Addr.add] using World.cell?_spot (hi 0 (by omega)).1
    subst hspot
    obtain ⟨x0, x1⟩ := hi i (by omega)
    obtain ⟨q, rows, d', h1, h2, h3, h4⟩ := open_rowsN x1
    have hbd : Rows.uptoBulk (D i) ≤ 1048576 := by
      rw [hd] at hk
      simp only [Rows.uptoBulk] at hk
      have := bulk_mem (l := (List.range len).map D) (List.mem_map.2 ⟨i, List.mem_range.2 him, rfl⟩)
      omega
    rw [Addr.add_lit, h1] at x0
    refine ⟨b, o, q, rows, d', rfl, x0, h2, Nat.le_trans h3 hbd, fun C hC => ⟨?_, fun c hc => ?_⟩⟩
    · have := h4 C hC
      have := len_bulk C
      omega
    · have := h4 C hC
      have := bulk_cell hc
      omega
end Go.Proofs.YtkficmbkoinjjaaDoor
