/- Rows of text that are handed in, and how much of them there is. -/
import Derived.Test.YtkficmbkoinjjaaDoorP5
import Derived.Test.YtkficmbkoinjjaaDoorP6
namespace Go.Proofs.YtkficmbkoinjjaaDoor
open Go Go.ChangeShapes Go.WideShapes Go.ChangeAt Go.RowKit Go.Deep
set_option maxHeartbeats 400000
set_option linter.unusedVariables false
/-- bytes of a row, one more for each cell -/
def bulkC (C : List Cell) : Nat := (C.map fun c => c.length + 1).sum
theorem bulk_pos {H : Type} (d : DataW H) : 1 ≤ Rows.uptoBulk d := by
  cases d with
  | lit l => cases l <;> simp [Rows.uptoBulk]
  | nil => simp [Rows.uptoBulk]
  | ptr d => simp [Rows.uptoBulk]
  | slice elems spare => simp [Rows.uptoBulk]
  | agg parts => simp [Rows.uptoBulk]
  | iface t d => simp [Rows.uptoBulk]
  | map entries => simp [Rows.uptoBulk]
  | held h => simp [Rows.uptoBulk]
theorem bulk_strs {H : Type} : ∀ ss : List ByteArray, Rows.uptoBulkAll (Go.ChangeShapes.strs ss : List (DataW H)) = bulkC (ss.map fun s => s.data.toList)
  | [] => by simp [Go.ChangeShapes.strs, Rows.uptoBulkAll, bulkC]
  | s :: ss => by
    have ih := bulk_strs (H := H) ss
    simp only [Go.ChangeShapes.strs, List.map_cons, Rows.uptoBulkAll, Rows.uptoBulk, bulkC, List.sum_cons] at ih ⊢
    rw [ih]
theorem bulk_map {H : Type} {α : Type} (f : α → Nat) (D : α → DataW H) : ∀ l : List α, (∀ i ∈ l, f i ≤ Rows.uptoBulk (D i)) → (l.map f).sum ≤ Rows.uptoBulkAll (l.map D)
  | [], _ => by simp
  | i :: l, h => by
    have h1 := h i (by simp)
    have h2 := bulk_map f D l fun x hx => h x (by simp [hx])
    simp only [List.map_cons, List.sum_cons, Rows.uptoBulkAll]
    omega
set_option maxRecDepth 100000 in
theorem open_cells {H : Type} {enc : TypeId × Value → H} {w : World} {held : Bool} {fuel : Nat} {v : Value} {d : DataW H} {ps : List MemPlace}
    (hf : DataW.trod enc Tryd.prog w 0 (fun _ => true) held fuel 27 [v] = some (d, ps)) : ∃ (q : Option Addr) (C : List Cell) (cap : Nat), v = .slice q C.length cap ∧ CellsIn w q C ∧ C.length ≤ maxLen ∧ bulkC C ≤ Rows.uptoBulk d := by
  rcases open_strings Tryd.underlying27 (by kernel_rfl) (by kernel_rfl) hf with ⟨h0, _⟩ | ⟨a, l, c, ss, h0, _, hl, hm, hmm, hx, hi, _⟩
  · simp only [List.cons.injEq, and_true] at h0
    exact ⟨none, [], 0, h0, fun i hi => absurd hi (Nat.not_lt_zero _), Nat.zero_le _, by simp [bulkC]⟩
  · simp only [List.cons.injEq, and_true] at h0
    have hd := congrArg Prod.fst hx
    simp only at hd
    simp only [if_true] at hmm
    have hlen : ((ss.take l).map fun s => s.data.toList).length = l := by rw [List.length_map, List.length_take]; omega
    refine ⟨some a, (ss.take l).map fun s => s.data.toList, c, by rw [hlen]; exact h0, ?_, by rw [hlen]; omega, ?_⟩
    · intro j hj
      rw [hlen] at hj
      have x0 := hi j (by omega)
      obtain ⟨b, o, spot⟩ := a
      have hspot : spot = none := by simpa [Addr.add] using World.cell?_spot (hi 0 (by omega))
      subst hspot
      refine ⟨b, o, rfl, ?_⟩
      rw [Addr.add_lit] at x0
      rw [x0]
      have hjl : j < ss.length := by omega
      simp [List.getD, List.getElem?_eq_getElem hjl]
    · rw [hd]
      have := bulk_strs (H := H) (ss.take l)
      simp only [Rows.uptoBulk]
      omega
set_option maxRecDepth 100000 in
theorem open_rows {H : Type} {enc : TypeId × Value → H} {w : World} {held : Bool} {v : Value} {d : DataW H} {ps : List MemPlace} {r : Reach} {b0 : Nat} (hv : Value.okWide Tryd.prog w r b0 22 v)
    (h : DataW.Trod enc Tryd.prog w 0 (fun _ => true) held 22 v d ps) : ∃ p rows cap, v = .slice p rows.length cap ∧ rows.length ≤ maxLen ∧ RowsIn w p rows ∧ (∀ C ∈ rows, C.length ≤ maxLen) ∧ (rows.map bulkC).sum ≤ Rows.uptoBulk d := by
  obtain ⟨p, len, cap, rfl⟩ := okWide_slice Tryd.underlying22 hv
  obtain ⟨fuel, hf⟩ := h
  simp only [Value.cells] at hf
  rcases open_slice1 Tryd.underlying22 (by kernel_rfl) hf with ⟨h0, _⟩ | ⟨a, l, c, m, n, V, D, Pl, h0, _, hl, hm, hmm, hx, hi⟩
  · simp only [List.cons.injEq, Value.slice.injEq, and_true] at h0
    obtain ⟨rfl, rfl, rfl⟩ := h0
    exact ⟨none, [], 0, rfl, Nat.zero_le _, fun i hi => absurd hi (Nat.not_lt_zero _), by simp, by simp⟩
  · simp only [List.cons.injEq, Value.slice.injEq, and_true] at h0
    obtain ⟨rfl, rfl, rfl⟩ := h0
    simp only [if_true] at hmm
    have hd := congrArg Prod.fst hx
    simp only at hd
    obtain ⟨R, hR⟩ := choose_lt (n := len) (α := List Cell) (p := fun i C => ∃ q cap, V i = .slice q C.length cap ∧ CellsIn w q C ∧ C.length ≤ maxLen ∧ bulkC C ≤ Rows.uptoBulk (D i)) (fun i him => by
      obtain ⟨q, C, cap, h1, h2, h3, h4⟩ := open_cells (hi i (by omega)).2
      exact ⟨C, q, cap, h1, h2, h3, h4⟩)
    have hlen : ((List.range len).map R).length = len := by simp
    refine ⟨some a, (List.range len).map R, cap, by rw [hlen], by rw [hlen]; omega, ?_, ?_, ?_⟩
    · intro i hi2
      rw [hlen] at hi2
      have x0 := (hi i (by omega)).1
      obtain ⟨b, o, spot⟩ := a
      have hspot : spot = none := by simpa [Addr.add] using World.cell?_spot (hi 0 (by omega)).1
      subst hspot
      obtain ⟨q, d', h1, h2, _, _⟩ := hR i hi2
      rw [Addr.add_lit, h1] at x0
      refine ⟨b, o, q, d', rfl, ?_, ?_⟩
      · simpa using x0
      · simpa using h2
    · intro C hC
      obtain ⟨i, hi2, rfl⟩ := List.mem_map.1 hC
      obtain ⟨_, _, _, _, h3, _⟩ := hR i (List.mem_range.1 hi2)
      exact h3
    · rw [hd, List.map_map]
      have := bulk_map (H := H) (fun i => bulkC (R i)) D (List.range len) fun i hi2 => by
        obtain ⟨_, _, _, _, _, h4⟩ := hR i (List.mem_range.1 hi2)
        exact h4
      simp only [Rows.uptoBulk]
      exact Nat.le_trans this (by omega)
end Go.Proofs.YtkficmbkoinjjaaDoor
