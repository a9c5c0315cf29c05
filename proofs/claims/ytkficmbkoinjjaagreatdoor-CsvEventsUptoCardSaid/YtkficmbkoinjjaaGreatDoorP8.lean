/- Rows of text that are handed in, and how much of them there is. -/
import Derived.Deep.Slices
import Derived.SliceStrings
import Derived.Test.YtkficmbkoinjjaaGreatDoorN3
import Derived.Test.YtkficmbkoinjjaaGreatDoorD6
namespace Go.Proofs.YtkficmbkoinjjaaGreatDoor
open Go Go.ChangeShapes Go.WideShapes Go.ChangeAt Go.RowKit Go.Deep
set_option maxHeartbeats 400000
set_option linter.unusedVariables false
/-- bytes of a row, one more for each cell -/
def bulkC (C : List Cell) : Nat := (C.map fun c => c.length + 1).sum
theorem bulk_pos {H : Type} (d : DataW H) : 1 ≤ Rows.uptoBulk d := by
  cases d with
  | lit l => cases l <;> simp [Rows.uptoBulk]
  | nil => simp [Rows.uptoBulk]
  | ptr d => simp [Rows.uptoBulk]
  | slice elems spare => simp [Rows.uptoBulk]
  | agg parts => simp [Rows.uptoBulk]
  | iface t d => simp [Rows.uptoBulk]
  | map entries => simp [Rows.uptoBulk]
  | held h => simp [Rows.uptoBulk]
theorem bulk_strs {H : Type} : ∀ ss : List ByteArray, Rows.uptoBulkAll (Go.ChangeShapes.strs ss : List (DataW H)) = bulkC (ss.map fun s => s.data.toList)
  | [] => by simp [Go.ChangeShapes.strs, Rows.uptoBulkAll, bulkC]
  | s :: ss => by
    have ih := bulk_strs (H := H) ss
    simp only [Go.ChangeShapes.strs, List.map_cons, Rows.uptoBulkAll, Rows.uptoBulk, bulkC, List.sum_cons] at ih ⊢
    rw [ih]
theorem bulk_map {H : Type} {α : Type} (f : α → Nat) (D : α → DataW H) : ∀ l : List α, (∀ i ∈ l, f i ≤ Rows.uptoBulk (D i)) → (l.map f).sum ≤ Rows.uptoBulkAll (l.map D)
  | [], _ => by simp
  | i :: l, h => by
    have h1 := h i (by simp)
    have h2 := bulk_map f D l fun x hx => h x (by simp [hx])
    simp only [List.map_cons, List.sum_cons, Rows.uptoBulkAll]
    omega
set_option maxRecDepth 100000 in
theorem open_cells {H : Type} {enc : TypeId × Value → H} {w : World} {held : Bool} {fuel : Nat} {v : Value} {d : DataW H} {ps : List MemPlace}
    (hf : DataW.trod enc Tryz.prog w 0 (fun _ => true) held fuel 22 [v] = some (d, ps)) : ∃ (q : Option Addr) (C : List Cell) (cap : Nat), v = .slice q C.length cap ∧ CellsIn w q C ∧ C.length ≤ maxLen ∧ bulkC C ≤ Rows.uptoBulk d := by
  rcases open_strings Tryz.underlying22 (by kernel_rfl) (by kernel_rfl) hf with ⟨h0, _⟩ | ⟨a, l, c, ss, h0, _, hl, hm, hmm, hx, hi, _⟩
  · simp only [List.cons.injEq, and_true] at h0
    exact ⟨none, [], 0, h0, fun i hi => absurd hi (Nat.not_lt_zero _), Nat.zero_le _, by simp [bulkC]⟩
  · simp only [List.cons.injEq, and_true] at h0
    have hd := congrArg Prod.fst hx
    simp only at hd
    simp only [if_true] at hmm
    have hlen : ((ss.take l).map fun s => s.data.toList).length = l := by rw [List.length_map, List.length_take]; omega
    refine ⟨some a, (ss.take l).map fun s => s.data.toList, c, by rw [hlen]; exact h0, ?_, by rw [hlen]; omega, ?_⟩
    · intro j hj
      rw [hlen] at hj
      have x0 := hi j (by omega)
      obtain ⟨b, o, spot⟩ := a
      have hspot : spot = none := by simpa [Addr.add] using World.cell?_spot (hi 0 (by omega))
      subst hspot
      refine ⟨b, o, rfl, ?_⟩
      rw [Addr.add_lit] at x0
      rw [x0]
      have hjl : j < ss.length := by omega
      simp [List.getD, List.getElem?_eq_getElem hjl]
    · rw [hd]
      have := bulk_strs (H := H) (ss.take l)
      simp only [Rows.uptoBulk]
      omega
set_option maxRecDepth 100000 in
theorem open_rows {H : Type} {enc : TypeId × Value → H} {w : World} {held : Bool} {v : Value} {d : DataW H} {ps : List MemPlace} {r : Reach} {b0 : Nat} (hv : Value.okWide Tryz.prog w r b0 26 v)
    (h : DataW.Trod enc Tryz.prog w 0 (fun _ => true) held 26 v d ps) : ∃ p rows cap, v = .slice p rows.length cap ∧ rows.length ≤ maxLen ∧ RowsIn w p rows ∧ (∀ C ∈ rows, C.length ≤ maxLen) ∧ (rows.map bulkC).sum ≤ Rows.uptoBulk d := by
  obtain ⟨p, len, cap, rfl⟩ := okWide_slice Tryz.underlying26 hv
  obtain ⟨fuel, hf⟩ := h
  simp only [Value.cells] at hf
  rcases open_slice1 Tryz.underlying26 (by kernel_rfl) hf with ⟨h0, _⟩ | ⟨a, l, c, m, n, V, D, Pl, h0, _, hl, hm, hmm, hx, hi⟩
  · simp only [List.cons.injEq, Value.slice.injEq, and_true] at h0
    obtain ⟨rfl, rfl, rfl⟩ := h0
    exact ⟨none, [], 0, rfl, Nat.zero_le _, fun i hi => absurd hi (Nat.not_lt_zero _), by simp, by simp⟩
  · simp only [List.cons.injEq, Value.slice.injEq, and_true] at h0
    obtain ⟨rfl, rfl, rfl⟩ := h0
    simp only [if_true] at hmm
    have hd := congrArg Prod.fst hx
    simp only at hd
    obtain ⟨R, hR⟩ := choose_lt (n := len) (α := List Cell) (p := fun i C => ∃ q cap, V i = .slice q C.length cap ∧ CellsIn w q C ∧ C.length ≤ maxLen ∧ bulkC C ≤ Rows.uptoBulk (D i)) (fun i him => by
      obtain ⟨q, C, cap, h1, h2, h3, h4⟩ := open_cells (hi i (by omega)).2
      exact ⟨C, q, cap, h1, h2, h3, h4⟩)
    have hlen : ((List.range len).map R).length = len := by simp
    refine ⟨some a, (List.range len).map R, cap, by rw [hlen], by rw [hlen]; omega, ?_, ?_, ?_⟩
    · intro i hi2
      rw [hlen] at hi2
      have x0 := (hi i (by omega)).1
      obtain ⟨b, o, spot⟩ := a
      have hspot : spot = none := by simpa [Addr.add] using World.cell?_spot (hi 0 (by omega)).1
      subst hspot
      obtain ⟨q, d', h1, h2, _, _⟩ := hR i hi2
      rw [Addr.add_lit, h1] at x0
      refine ⟨b, o, q, d', rfl, ?_, ?_⟩
      · simpa using x0
      · simpa using h2
    · intro C hC
      obtain ⟨i, hi2, rfl⟩ := List.mem_map.1 hC
      obtain ⟨_, _, _, _, h3, _⟩ := hR i (List.mem_range.1 hi2)
      exact h3
    · rw [hd, List.map_map]
      have := bulk_map (H := H) (fun i => bulkC (R i)) D (List.range len) fun i hi2 => by
        obtain ⟨_, _, _, _, _, h4⟩ := hR i (List.mem_range.1 hi2)
        exact h4
      simp only [Rows.uptoBulk]
      exact Nat.le_trans this (by omega)
end Go.Proofs.YtkficmbkoinjjaaGreatDoor
/- Lists of rows that are handed in. -/
namespace Go.Proofs.YtkficmbkoinjjaaGreatDoor
open Go Go.ChangeShapes Go.WideShapes Go.ChangeAt Go.RowKit Go.Deep
set_option maxHeartbeats 400000
set_option linter.unusedVariables false
theorem len_bulk : ∀ C : List Cell, C.length ≤ bulkC C
  | [] => by simp [bulkC]
  | c :: t => by
    have ih := len_bulk t
    have h2 : bulkC (c :: t) = c.length + 1 + bulkC t := by simp [bulkC]
    simp only [List.length_cons]
    omega
theorem bulk_mem {H : Type} : ∀ {l : List (DataW H)} {d : DataW H}, d ∈ l → Rows.uptoBulk d ≤ Rows.uptoBulkAll l
  | x :: l, d, h => by
    simp only [Rows.uptoBulkAll]
    rcases List.mem_cons.1 h with rfl | h
    · omega
    · have := bulk_mem h
      omega
theorem bulk_len {H : Type} (l : List (DataW H)) : l.length ≤ Rows.uptoBulkAll l := by
  induction l with
  | nil => simp [Rows.uptoBulkAll]
  | cons x r ih => have := bulk_pos x; simp only [Rows.uptoBulkAll, List.length_cons]; omega
set_option maxRecDepth 100000 in
theorem cells_room {H : Type} {enc : TypeId × Value → H} {w : World} {held : Bool} {fuel : Nat} {q : Option Addr} {n cap : Nat} {d : DataW H} {ps : List MemPlace}
    (hf : DataW.trod enc Tryz.prog w 0 (fun _ => true) held fuel 22 [.slice q n cap] = some (d, ps)) : q = none → cap = 0 := by
  intro hq
  rcases open_strings Tryz.underlying22 (by kernel_rfl) (by kernel_rfl) hf with ⟨h0, _⟩ | ⟨a, l, c, ss, h0, _⟩
  · simp only [List.cons.injEq, Value.slice.injEq, and_true] at h0
    exact h0.2.2
  · simp only [List.cons.injEq, Value.slice.injEq, and_true] at h0
    rw [hq] at h0
    cases h0.1
set_option maxRecDepth 100000 in
theorem open_rowsN {H : Type} {enc : TypeId × Value → H} {w : World} {held : Bool} {fuel : Nat} {v : Value} {d : DataW H} {ps : List MemPlace}
    (hf : DataW.trod enc Tryz.prog w 0 (fun _ => true) held fuel 26 [v] = some (d, ps)) : ∃ q rows cap, v = .slice q rows.length cap ∧ RowsN w q rows ∧ rows.length ≤ Rows.uptoBulk d ∧ ∀ C ∈ rows, bulkC C ≤ Rows.uptoBulk d := by
  rcases open_slice1 Tryz.underlying26 (by kernel_rfl) hf with ⟨h0, _⟩ | ⟨a, len, cap, m, n, V, D, Pl, h0, _, hl, hm, hmm, hx, hi⟩
  · simp only [List.cons.injEq, and_true] at h0
    exact ⟨none, [], 0, h0, fun i hi => absurd hi (Nat.not_lt_zero _), Nat.zero_le _, by simp⟩
  · simp only [List.cons.injEq, and_true] at h0
    simp only [if_true] at hmm
    have hd := congrArg Prod.fst hx
    simp only at hd
    obtain ⟨R, hR⟩ := choose_lt (n := len) (α := List Cell) (p := fun i C => ∃ q cap, V i = .slice q C.length cap ∧ CellsIn w q C ∧ (q = none → cap = 0) ∧ bulkC C ≤ Rows.uptoBulk (D i)) (fun i him => by
      obtain ⟨q, C, cap, h1, h2, h3, h4⟩ := open_cells (hi i (by omega)).2
      have h5 := (hi i (by omega)).2
      rw [h1] at h5
      exact ⟨C, q, cap, h1, h2, cells_room h5, h4⟩)
    have hlen : ((List.range len).map R).length = len := by simp
    have hbd : ∀ i, i < len → Rows.uptoBulk (D i) ≤ Rows.uptoBulk d := fun i hi2 => by
      rw [hd]
      simp only [Rows.uptoBulk]
      have := bulk_mem (l := (List.range len).map D) (List.mem_map.2 ⟨i, List.mem_range.2 hi2, rfl⟩)
      omega
    refine ⟨some a, (List.range len).map R, cap, by rw [hlen]; exact h0, ?_, ?_, ?_⟩
    · intro i hi2
      rw [hlen] at hi2
      have x0 := (hi i (by omega)).1
      obtain ⟨b, o, spot⟩ := a
      have hspot : spot = none := by simpa [Addr.add] using World.cell?_spot (hi 0 (by omega)).1
      subst hspot
      obtain ⟨q, d', h1, h2, h3, _⟩ := hR i hi2
      rw [Addr.add_lit, h1] at x0
      refine ⟨b, o, q, d', rfl, ?_, ?_, h3⟩
      · simpa using x0
      · simpa using h2
    · rw [hlen, hd]
      simp only [Rows.uptoBulk]
      have := bulk_len ((List.range len).map D)
      simp only [List.length_map, List.length_range] at this
      omega
    · intro C hC
      obtain ⟨i, hi2, rfl⟩ := List.mem_map.1 hC
      obtain ⟨_, _, _, _, _, h4⟩ := hR i (List.mem_range.1 hi2)
      exact Nat.le_trans h4 (hbd i (List.mem_range.1 hi2))
/-- lists of rows, as they lie, none too great -/
def Lsts (w : World) (p : Option Addr) (n : Nat) : Prop := ∀ i, i < n → ∃ b o q rows d, p = some ⟨b, o, none⟩ ∧ w.cell? ⟨b, o + i, none⟩ = some (.slice q (rows : List (List Cell)).length d) ∧ RowsN w q rows ∧ rows.length ≤ 1048576 ∧ ∀ r ∈ rows, r.length ≤ 1048576 ∧ ∀ c ∈ r, c.length ≤ 1048576
theorem RowsN.below {w w' : World} {p : Option Addr} {rows : List (List Cell)} (h : RowsN w p rows) (hb : Below w.heap.size w w') : RowsN w' p rows := by
  intro i hi
  obtain ⟨b, o, q, d, e, c, hc, h1⟩ := h i hi
  exact ⟨b, o, q, d, e, (hb.cell (p := ⟨b, o + i, none⟩) (lt_of_cell c)).trans c, hc.below hb, h1⟩
theorem Lsts.below {w w' : World} {p : Option Addr} {n : Nat} (h : Lsts w p n) (hb : Below w.heap.size w w') : Lsts w' p n := by
  intro i hi
  obtain ⟨b, o, q, rows, d, e, c, hr, h1⟩ := h i hi
  exact ⟨b, o, q, rows, d, e, (hb.cell (p := ⟨b, o + i, none⟩) (lt_of_cell c)).trans c, hr.below hb, h1⟩
end Go.Proofs.YtkficmbkoinjjaaGreatDoor
