/- The laws' own mark and wide: values with marks behind them. -/
import Derived.Test.YtlinpkmfjkcoiaaDoorT9
import Derived.Laws.OwnMore
namespace Go.Proofs.YtlinpkmfjkcoiaaDoor
open Go Go.RowKit
set_option maxHeartbeats 2000000
set_option linter.unusedVariables false
set_option linter.unusedSimpArgs false
theorem mark_any (x : Int) (h0 : -1000000000000000000 ≤ x) (h1 : x ≤ 1000000000000000000) (w : World) : Calls Tryd.prog 55 #[.int .i64 x] w fun e w' => e = .returned (.agg #[.int .i64 1, .int .i64 (77 + x), .string ⟨#[]⟩, .bool false]) ∧ Below w.heap.size w w' := by
  have hb : Below w.heap.size w (w.alloc (.cells #[.int .i64 0, .int .i64 0, .string ⟨#[]⟩, .bool false] 96)) := (Below.refl _ _).alloc (Nat.le_refl _) _
  have F := Four.new w ⟨0, 0, ⟨#[]⟩, false⟩
  obtain ⟨w0, hw0⟩ : ∃ x, x = w.alloc (.cells #[.int .i64 0, .int .i64 0, .string ⟨#[]⟩, .bool false] 96) := ⟨_, rfl⟩
  rw [← hw0] at hb
  replace F : Four w0 w.heap.size ⟨0, 0, ⟨#[]⟩, false⟩ := by rw [hw0]; exact F
  have HW := Lib.hid hw0
  have HB := Lib.hid hb
  obtain ⟨y0, y1, y2, y3, yz0, yz1, yz2, yz3⟩ := F
  obtain ⟨g, hg⟩ : ∃ g, g = w.heap.size := ⟨_, rfl⟩
  rw [← hg] at y0 y1 y2 y3 yz0 yz1 yz2 yz3
  have HG := Lib.hid hg
  clear hw0 hb
  go_enter Tryd.func55, Tryd.ntmps55
  go_upto_region 1 with fail
  rw [← HW.out, ← hg]
  clear hg
  go_wp2
  refine bodyPost_ret (v := .agg #[.int .i64 1, .int .i64 (77 + x), .string ⟨#[]⟩, .bool false]) (by simp [results, Tryd.results55, go_sem, y0, y1, y2, y3]) rfl ?_
  have hg := HG.out
  have q : w.heap.size ≤ g := by omega
  exact ⟨rfl, by repeat (first | exact HB.out | refine Below.setCell ?_ (by assumption) _)⟩
def wideL (vl : List V4) : List V4 := vl ++ (List.range 34).map fun i : Nat => (⟨1, 77 + (i : Int), ⟨#[]⟩, false⟩ : V4)
theorem wide_len (vl : List V4) : (wideL vl).length = vl.length + 34 := by simp [wideL]
theorem wide_front {vl : List V4} {k : Nat} (h : k < vl.length) : (wideL vl)[k]? = some vl[k] := by
  unfold wideL
  rw [List.getElem?_append_left h, List.getElem?_eq_getElem h]
theorem wide_back {vl : List V4} {k : Nat} (h : vl.length ≤ k) (h2 : k < vl.length + 34) : (wideL vl)[k]? = some ⟨1, 77 + ((k : Int) - (vl.length : Int)), ⟨#[]⟩, false⟩ := by
  unfold wideL
  rw [List.getElem?_append_right h, List.getElem?_map, List.getElem?_range (by omega)]
  simp only [Option.map_some]
  congr 2
  omega
theorem cells4_len (vl : List V4) : (cells4 vl).length = vl.length * 4 := by
  induction vl with
  | nil => rfl
  | cons v t ih => rw [cells4_cons]; simp only [List.length_cons, ih]; omega
theorem cells4_get {L : List V4} {k : Nat} {u : V4} (h : L[k]? = some u) : (cells4 L)[k * 4]? = some (.int .i64 u.k) ∧ (cells4 L)[k * 4 + 1]? = some (.int .i64 u.n) ∧ (cells4 L)[k * 4 + 2]? = some (.string u.s) ∧ (cells4 L)[k * 4 + 3]? = some (.bool u.b) := by
  obtain ⟨hk, rfl⟩ := List.getElem?_eq_some_iff.1 h
  exact cells4_at L k hk
theorem own4_frozen {w : World} {B g n c : Nat} {xs : List Value} (h : w.ownsRow B 96 4 (.slice (some ⟨g, 0, none⟩) n c) n xs) (i : Nat) : w.frozen? ⟨g, i, none⟩ = false := by
  rcases h.2 with ⟨h1, _⟩ | ⟨g', cap, cur, h1, _, hb, _⟩
  · cases h1
  · simp only [Value.slice.injEq, Option.some.injEq, Addr.mk.injEq, and_true] at h1
    obtain ⟨rfl, _⟩ := h1
    simp [World.frozen?, hb]
theorem own4_cell {w : World} {B g n c : Nat} {xs : List Value} (h : w.ownsRow B 96 4 (.slice (some ⟨g, 0, none⟩) n c) n xs) {i : Nat} {u : Value} (hi : xs[i]? = some u) : w.cell? ⟨g, i, none⟩ = some u := by
  have := h.cells (g := g) rfl i u hi
  rw [Addr.add_lit] at this
  simpa using this
/-- so many values are filled in -/
structure Filled4 (w wr : World) (G N : Nat) (L : List V4) (k : Nat) (xs : List Value) : Prop where
  own : wr.ownsRow G 96 4 (.slice (some ⟨G, 0, none⟩) N N) N xs
  len : xs.length = N * 4
  blw : Below G w wr
  gl : G < wr.heap.size
  done : ∀ j, j < k * 4 → xs[j]? = (cells4 L)[j]?
theorem Filled4.below {w wr w' : World} {G N : Nat} {L : List V4} {k : Nat} {xs : List Value} (h : Filled4 w wr G N L k xs) (hb : Below wr.heap.size wr w') : Filled4 w w' G N L k xs := by
  have hg : wr.grownBy w' none := ⟨hb.os, hb.tape, hb.output, hb.size, fun i hi _ => hb.block i hi⟩
  exact ⟨World.ownsRow.kept h.own hg (.inr (by simp [Value.ownBlock])), h.len, h.blw.trans (hb.mono (Nat.le_of_lt h.gl)), Nat.lt_of_lt_of_le h.gl hb.size, h.done⟩
theorem Filled4.set {w wr : World} {G N : Nat} {L : List V4} {k j : Nat} {xs : List Value} (h : Filled4 w wr G N L k xs) (hj : k * 4 ≤ j) (u : Value) : Filled4 w (wr.setCell ⟨G, j, none⟩ u) G N L k (xs.set j u) :=
  ⟨(h.own.stored j u).1, by rw [List.length_set]; exact h.len, h.blw.setCell (Nat.le_refl _) _, by have := h.gl; simpa using this, fun i hi => by rw [List.getElem?_set_ne (by omega)]; exact h.done i hi⟩
def set4 (xs : List Value) (k : Nat) (u : V4) : List Value := (((xs.set (k * 4) (.int .i64 u.k)).set (k * 4 + 1) (.int .i64 u.n)).set (k * 4 + 2) (.string u.s)).set (k * 4 + 3) (.bool u.b)
def setW (w : World) (G k : Nat) (u : V4) : World := (((w.setCell ⟨G, k * 4, none⟩ (.int .i64 u.k)).setCell ⟨G, k * 4 + 1, none⟩ (.int .i64 u.n)).setCell ⟨G, k * 4 + 2, none⟩ (.string u.s)).setCell ⟨G, k * 4 + 3, none⟩ (.bool u.b)
theorem Filled4.set4 {w wr : World} {G N : Nat} {L : List V4} {k : Nat} {xs : List Value} (h : Filled4 w wr G N L k xs) (u : V4) : Filled4 w (setW wr G k u) G N L k (set4 xs k u) :=
  (((h.set (Nat.le_refl _) _).set (by omega) _).set (by omega) _).set (by omega) _
theorem Filled4.put {w wr : World} {G N : Nat} {L : List V4} {k : Nat} {xs : List Value} (h : Filled4 w wr G N L k xs) (hk : k < N) {u : V4} (hu : L[k]? = some u) : Filled4 w (setW wr G k u) G N L (k + 1) (YtlinpkmfjkcoiaaDoor.set4 xs k u) := by
  have h1 := h.set4 u
  obtain ⟨a0, a1, a2, a3⟩ := cells4_get hu
  have hl := h.len
  refine ⟨h1.own, h1.len, h1.blw, h1.gl, fun i hi => ?_⟩
  by_cases hik : i < k * 4
  · exact h1.done i hik
  · unfold YtlinpkmfjkcoiaaDoor.set4
    have hc : i = k * 4 ∨ i = k * 4 + 1 ∨ i = k * 4 + 2 ∨ i = k * 4 + 3 := by omega
    rcases hc with rfl | rfl | rfl | rfl
    · rw [List.getElem?_set_ne (by omega), List.getElem?_set_ne (by omega), List.getElem?_set_ne (by omega), List.getElem?_set_self (by omega), a0]
    · rw [List.getElem?_set_ne (by omega), List.getElem?_set_ne (by omega), List.getElem?_set_self (by simp; omega), a1]
    · rw [List.getElem?_set_ne (by omega), List.getElem?_set_self (by simp; omega), a2]
    · rw [List.getElem?_set_self (by simp; omega), a3]
theorem Filled4.all {w wr : World} {G N : Nat} {L : List V4} {xs : List Value} (h : Filled4 w wr G N L N xs) (hN : N = L.length) : wr.ownsRow G 96 4 (.slice (some ⟨G, 0, none⟩) L.length L.length) L.length (cells4 L) := by
  subst hN
  have e : xs = cells4 L := by
    refine List.ext_getElem? fun i => ?_
    by_cases hi : i < L.length * 4
    · exact h.done i hi
    · rw [List.getElem?_eq_none (by rw [h.len]; omega), List.getElem?_eq_none (by rw [cells4_len]; omega)]
  rw [← e]
  exact h.own
/-- the cells of a place of the row -/
theorem Filled4.at {w wr : World} {G N : Nat} {L : List V4} {k : Nat} {xs : List Value} (h : Filled4 w wr G N L k xs) (hk : k < N) : ∃ u0 u1 u2 u3, wr.cell? ⟨G, k * 4, none⟩ = some u0 ∧ wr.cell? ⟨G, k * 4 + 1, none⟩ = some u1 ∧ wr.cell? ⟨G, k * 4 + 2, none⟩ = some u2 ∧ wr.cell? ⟨G, k * 4 + 3, none⟩ = some u3 ∧
    wr.frozen? ⟨G, k * 4, none⟩ = false ∧ wr.frozen? ⟨G, k * 4 + 1, none⟩ = false ∧ wr.frozen? ⟨G, k * 4 + 2, none⟩ = false ∧ wr.frozen? ⟨G, k * 4 + 3, none⟩ = false := by
  have hl := h.len
  have get : ∀ j, j < N * 4 → ∃ u, xs[j]? = some u := fun j hj => ⟨xs[j]'(by omega), List.getElem?_eq_getElem _⟩
  obtain ⟨u0, e0⟩ := get (k * 4) (by omega)
  obtain ⟨u1, e1⟩ := get (k * 4 + 1) (by omega)
  obtain ⟨u2, e2⟩ := get (k * 4 + 2) (by omega)
  obtain ⟨u3, e3⟩ := get (k * 4 + 3) (by omega)
  exact ⟨u0, u1, u2, u3, own4_cell h.own e0, own4_cell h.own e1, own4_cell h.own e2, own4_cell h.own e3, own4_frozen h.own _, own4_frozen h.own _, own4_frozen h.own _, own4_frozen h.own _⟩
theorem run_front22 (p : Option Addr) (k n c : Nat) (hk : k ≤ c) (w : World) : (Instr.slice 22 (.slice p n c) none (some (.int .i64 k)) none).run Tryd.prog w = .ok (.slice p k c) w := by
  have hs : (sizeOf 96).run Tryd.prog w = .ok 4 w := by kernel_rfl
  have he : Tryd.prog.elem 22 = 96 := by kernel_rfl
  rw [run_slice_h w 22 p n c (by rw [he]; exact Tryd.underlying22) .i64 k (by omega) (by omega), he, hs]
  simp [Result.andThen, sliced, map_add_zero]
end Go.Proofs.YtlinpkmfjkcoiaaDoor
