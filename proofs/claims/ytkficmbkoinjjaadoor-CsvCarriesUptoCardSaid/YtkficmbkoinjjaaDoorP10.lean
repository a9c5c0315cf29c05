/- A type, an event and a row of cells that are handed in: what lies there. -/
import Derived.Test.YtkficmbkoinjjaaDoorE1
import Derived.Test.YtkficmbkoinjjaaDoorP5
import Derived.Test.YtkficmbkoinjjaaDoorP7
import Derived.Deep.Slices
import Derived.Lib.SmallJoins
namespace Go.Proofs.YtkficmbkoinjjaaDoor
open Go Go.ChangeShapes Go.WideShapes Go.ChangeAt Go.RowKit Go.Deep
open V
set_option maxHeartbeats 1000000
set_option linter.unusedVariables false
set_option linter.unusedSimpArgs false
theorem i64_of_wf {a : Int} (h : (Lit.int .i64 a).wf = true) : I64 a := by
  have hmin : IntKind.min .i64 = -9223372036854775808 := by decide
  have hmax : IntKind.max .i64 = 9223372036854775807 := by decide
  simp only [Lit.wf, hmin, hmax, Bool.and_eq_true, decide_eq_true_eq] at h
  exact h
set_option maxRecDepth 100000 in
theorem value_cells {H : Type} {enc : TypeId × Value → H} {w : World} {base : Nat} {sp : Nat → Bool} {held : Bool} {fuel : Nat} {cs : List Value} {x : DataW H × List MemPlace}
    (h : DataW.trod enc Tryd.prog w base sp held fuel 47 cs = some x) :
    ∃ v : V4, I64 v.n ∧ cs[0]? = some (.int .i64 v.k) ∧ cs[1]? = some (.int .i64 v.n) ∧ cs[2]? = some (.string v.s) ∧ cs[3]? = some (.bool v.b) := by
  obtain ⟨xs, m, _, _, hlen, hxl, hf⟩ := DataW.trod_struct Tryd.underlying47 h
  have cut : ∀ (j : Nat) (v : Value), (cs.drop j).take 1 = [v] → cs[j]? = some v := by
    intro j v hc
    have := congrArg (·[0]?) hc
    simp only [List.getElem?_take, List.getElem?_drop, List.getElem?_cons_zero] at this
    simpa using this
  have get : ∀ j, j < 4 → ∃ y, xs[j]? = some y := fun j hj => ⟨xs[j]'(by rw [hxl]; exact hj), List.getElem?_eq_getElem _⟩
  obtain ⟨y0, g0⟩ := get 0 (by omega)
  obtain ⟨y1, g1⟩ := get 1 (by omega)
  obtain ⟨y2, g2⟩ := get 2 (by omega)
  obtain ⟨y3, g3⟩ := get 3 (by omega)
  have h0 := (hf 0 _ rfl).trans g0
  have h1 := (hf 1 _ rfl).trans g1
  have h2 := (hf 2 _ rfl).trans g2
  have h3 := (hf 3 _ rfl).trans g3
  obtain ⟨k, e0, _, _⟩ := DataW.trod_int (k := .i64) (by kernel_rfl) h0
  obtain ⟨n, e1, _, w1⟩ := DataW.trod_int (k := .i64) (by kernel_rfl) h1
  obtain ⟨s, e2, _, _⟩ := DataW.trod_string (by kernel_rfl) h2
  obtain ⟨b, e3, _⟩ := DataW.trod_bool (by kernel_rfl) h3
  have c3 : Tryd.prog.cellsOf 3 = 1 := by kernel_rfl
  have c2 : Tryd.prog.cellsOf 2 = 1 := by kernel_rfl
  have c9 : Tryd.prog.cellsOf 9 = 1 := by kernel_rfl
  have c4 : Tryd.prog.cellsOf 4 = 1 := by kernel_rfl
  replace e0 : (cs.drop 0).take (Tryd.prog.cellsOf 3) = _ := e0
  rw [c3] at e0
  replace e1 : (cs.drop 1).take (Tryd.prog.cellsOf 2) = _ := e1
  rw [c2] at e1
  replace e2 : (cs.drop 2).take (Tryd.prog.cellsOf 9) = _ := e2
  rw [c9] at e2
  replace e3 : (cs.drop 3).take (Tryd.prog.cellsOf 4) = _ := e3
  rw [c4] at e3
  exact ⟨⟨k, n, s, b⟩, i64_of_wf w1, cut 0 _ e0, cut 1 _ e1, cut 2 _ e2, cut 3 _ e3⟩
theorem bulk_len {H : Type} (l : List (DataW H)) : l.length ≤ Rows.uptoBulkAll l := by
  induction l with
  | nil => simp [Rows.uptoBulkAll]
  | cons x r ih => have := bulk_pos x; simp only [Rows.uptoBulkAll, List.length_cons]; omega
theorem slice_bulk {H : Type} (D : Nat → DataW H) (l : Nat) (sp : List (DataW H)) : l ≤ Rows.uptoBulk (DataW.slice ((List.range l).map D) sp) := by
  have := bulk_len ((List.range l).map D)
  simp only [List.length_map, List.length_range] at this
  simp only [Rows.uptoBulk]
  omega
set_option maxRecDepth 100000 in
theorem values_of {H : Type} {enc : TypeId × Value → H} {w : World} {held : Bool} {fuel : Nat} {v : Value} {x : DataW H × List MemPlace} (hf : DataW.trod enc Tryd.prog w 0 (fun _ => true) held fuel 42 [v] = some x) :
    ∃ (p : Option Addr) (vl : List V4) (cap : Nat), v = .slice p vl.length cap ∧ vl.length ≤ Rows.uptoBulk x.1 ∧ ValRow w p vl ∧ ∀ u ∈ vl, I64 u.n := by
  rcases open_slice Tryd.underlying42 hf with ⟨h0, _⟩ | ⟨a, l, c, m, n, D, Pl, h0, _, hl, hm, hmm, hx, hi⟩
  · simp only [List.cons.injEq, and_true] at h0
    exact ⟨none, [], 0, h0, Nat.zero_le _, fun i hi => absurd hi (Nat.not_lt_zero _), by simp⟩
  · simp only [List.cons.injEq, and_true] at h0
    have hc4 : Tryd.prog.cellsOf 47 = 4 := by kernel_rfl
    simp only [if_true] at hmm
    have each : ∀ i, i < l → ∃ u : V4, I64 u.n ∧ w.cell? (a.add (i * 4)) = some (.int .i64 u.k) ∧ w.cell? (a.add (i * 4 + 1)) = some (.int .i64 u.n) ∧ w.cell? (a.add (i * 4 + 2)) = some (.string u.s) ∧ w.cell? (a.add (i * 4 + 3)) = some (.bool u.b) := by
      intro i him
      obtain ⟨cs', hc, ht⟩ := hi i (by omega)
      obtain ⟨_, hcl, hat⟩ := World.cells?_some hc
      rw [hc4] at hat
      obtain ⟨u, hn, g0, g1, g2, g3⟩ := value_cells ht
      have x0 := (hat 0 (by omega)).trans g0
      have x1 := (hat 1 (by omega)).trans g1
      have x2 := (hat 2 (by omega)).trans g2
      have x3 := (hat 3 (by omega)).trans g3
      obtain ⟨cs0, hc0, ht0⟩ := hi 0 (by omega)
      obtain ⟨_, _, hat0⟩ := World.cells?_some hc0
      obtain ⟨_, _, g00, _, _, _⟩ := value_cells ht0
      have y0 := (hat0 0 (by rw [hc4]; omega)).trans g00
      obtain ⟨b, o, spot⟩ := a
      have hspot : spot = none := by simpa [Addr.add] using World.cell?_spot y0
      subst hspot
      have ha : ∀ j, ((⟨b, o, none⟩ : Addr).add (i * 4)).add j = (⟨b, o, none⟩ : Addr).add (i * 4 + j) := by
        intro j
        rw [Addr.add_lit, Addr.add_lit, Addr.add_lit, Nat.add_assoc]
      rw [ha] at x0 x1 x2 x3
      exact ⟨u, hn, x0, x1, x2, x3⟩
    have hex : ∃ f : Nat → V4, ∀ i, i < l → I64 (f i).n ∧ w.cell? (a.add (i * 4)) = some (.int .i64 (f i).k) ∧ w.cell? (a.add (i * 4 + 1)) = some (.int .i64 (f i).n) ∧ w.cell? (a.add (i * 4 + 2)) = some (.string (f i).s) ∧ w.cell? (a.add (i * 4 + 3)) = some (.bool (f i).b) := by
      have : ∀ i, ∃ u : V4, i < l → I64 u.n ∧ w.cell? (a.add (i * 4)) = some (.int .i64 u.k) ∧ w.cell? (a.add (i * 4 + 1)) = some (.int .i64 u.n) ∧ w.cell? (a.add (i * 4 + 2)) = some (.string u.s) ∧ w.cell? (a.add (i * 4 + 3)) = some (.bool u.b) := fun i => by
        by_cases h : i < l
        · obtain ⟨u, hu⟩ := each i h
          exact ⟨u, fun _ => hu⟩
        · exact ⟨⟨0, 0, ⟨#[]⟩, false⟩, fun h' => absurd h' h⟩
      exact ⟨fun i => Classical.choose (this i), fun i => Classical.choose_spec (this i)⟩
    obtain ⟨f, hfx⟩ := hex
    refine ⟨some a, (List.range l).map f, c, by simpa using h0, by rw [hx]; simpa using slice_bulk D l _, fun i him => ?_, fun u hu => ?_⟩
    · have hil : i < l := by simpa using him
      obtain ⟨_, x0, x1, x2, x3⟩ := hfx i hil
      obtain ⟨_, y0, _⟩ := hfx 0 (by omega)
      obtain ⟨b, o, spot⟩ := a
      have hspot : spot = none := by simpa [Addr.add] using World.cell?_spot y0
      subst hspot
      rw [Addr.add_lit] at x0 x1 x2 x3
      refine ⟨b, o, rfl, ?_, ?_, ?_, ?_⟩
      · simpa using x0
      · simpa [Nat.add_assoc] using x1
      · simpa [Nat.add_assoc] using x2
      · simpa [Nat.add_assoc] using x3
    · obtain ⟨i, hi2, rfl⟩ := List.mem_map.1 hu
      exact (hfx i (List.mem_range.1 hi2)).1

set_option maxRecDepth 100000 in
theorem open_event {H : Type} {enc : TypeId × Value → H} {w : World} {held : Bool} {v : Value} {d : DataW H} {ps : List MemPlace} {r : Reach} {b0 : Nat} (hv : Value.okWide Tryd.prog w r b0 44 v)
    (h : DataW.Trod enc Tryd.prog w 0 (fun _ => true) held 44 v d ps) : ∃ (ty : ByteArray) (tm : Int) (p : Option Addr) (vl : List V4) (cap : Nat), v = .agg #[.string ty, .int .i64 tm, .slice p vl.length cap] ∧ I64 tm ∧ vl.length ≤ Rows.uptoBulk d ∧ ValRow w p vl ∧ ∀ u ∈ vl, I64 u.n := by
  obtain ⟨v0, v1, v2, y0, y1, y2, m, rfl, rfl, _, h0, h1, h2⟩ := Go.Joins.open_agg3 Tryd.underlying44 (by kernel_rfl) (by kernel_rfl) hv h
  obtain ⟨s, e0, rfl, hs⟩ := DataW.trod_string (by kernel_rfl) h0
  obtain ⟨n, e1, rfl, w1⟩ := DataW.trod_int (k := .i64) (by kernel_rfl) h1
  obtain ⟨p, vl, cap, rfl, hl, hr, h4⟩ := values_of h2
  obtain rfl : v0 = _ := by simpa using e0
  obtain rfl : v1 = _ := by simpa using e1
  refine ⟨s, n, p, vl, cap, rfl, i64_of_wf w1, ?_, hr, h4⟩
  simp only [Rows.uptoBulk, Rows.uptoBulkAll]
  omega
set_option maxRecDepth 100000 in
theorem attr_cells {H : Type} {enc : TypeId × Value → H} {w : World} {base : Nat} {sp : Nat → Bool} {held : Bool} {fuel : Nat} {cs : List Value} {x : DataW H × List MemPlace}
    (h : DataW.trod enc Tryd.prog w base sp held fuel 49 cs = some x) :
    ∃ a : ByteArray × Int, cs[0]? = some (.string a.1) ∧ cs[1]? = some (.int .i64 a.2) := by
  obtain ⟨xs, m, _, _, hlen, hxl, hf⟩ := DataW.trod_struct Tryd.underlying49 h
  have cut : ∀ (j : Nat) (v : Value), (cs.drop j).take 1 = [v] → cs[j]? = some v := by
    intro j v hc
    have := congrArg (·[0]?) hc
    simp only [List.getElem?_take, List.getElem?_drop, List.getElem?_cons_zero] at this
    simpa using this
  have get : ∀ j, j < 2 → ∃ y, xs[j]? = some y := fun j hj => ⟨xs[j]'(by rw [hxl]; exact hj), List.getElem?_eq_getElem _⟩
  obtain ⟨y0, g0⟩ := get 0 (by omega)
  obtain ⟨y1, g1⟩ := get 1 (by omega)
  have h0 := (hf 0 _ rfl).trans g0
  have h1 := (hf 1 _ rfl).trans g1
  obtain ⟨s, e0, _, _⟩ := DataW.trod_string (by kernel_rfl) h0
  obtain ⟨k, e1, _, _⟩ := DataW.trod_int (k := .i64) (by kernel_rfl) h1
  have c3 : Tryd.prog.cellsOf 3 = 1 := by kernel_rfl
  have c9 : Tryd.prog.cellsOf 9 = 1 := by kernel_rfl
  replace e0 : (cs.drop 0).take (Tryd.prog.cellsOf 9) = _ := e0
  rw [c9] at e0
  replace e1 : (cs.drop 1).take (Tryd.prog.cellsOf 3) = _ := e1
  rw [c3] at e1
  exact ⟨(s, k), cut 0 _ e0, cut 1 _ e1⟩
set_option maxRecDepth 100000 in
theorem attrs_of {H : Type} {enc : TypeId × Value → H} {w : World} {held : Bool} {fuel : Nat} {v : Value} {x : DataW H × List MemPlace} (hf : DataW.trod enc Tryd.prog w 0 (fun _ => true) held fuel 39 [v] = some x) :
    ∃ (p : Option Addr) (l : List (ByteArray × Int)) (cap : Nat), v = .slice p l.length cap ∧ l.length ≤ Rows.uptoBulk x.1 ∧ AtRow w p l := by
  rcases open_slice Tryd.underlying39 hf with ⟨h0, _⟩ | ⟨a, l, c, m, n, D, Pl, h0, _, hl, hm, hmm, hx, hi⟩
  · simp only [List.cons.injEq, and_true] at h0
    exact ⟨none, [], 0, h0, Nat.zero_le _, fun i hi => absurd hi (Nat.not_lt_zero _)⟩
  · simp only [List.cons.injEq, and_true] at h0
    have hc2 : Tryd.prog.cellsOf 49 = 2 := by kernel_rfl
    simp only [if_true] at hmm
    obtain ⟨R, hR⟩ := choose_lt (n := l) (α := ByteArray × Int) (p := fun i u => w.cell? (a.add (i * 2)) = some (.string u.1) ∧ w.cell? (a.add (i * 2 + 1)) = some (.int .i64 u.2)) (fun i him => by
      obtain ⟨cs', hc, ht⟩ := hi i (by omega)
      obtain ⟨_, hcl, hat⟩ := World.cells?_some hc
      rw [hc2] at hat
      obtain ⟨u, g0, g1⟩ := attr_cells ht
      have x0 := (hat 0 (by omega)).trans g0
      have x1 := (hat 1 (by omega)).trans g1
      obtain ⟨cs0, hc0, ht0⟩ := hi 0 (by omega)
      obtain ⟨_, _, hat0⟩ := World.cells?_some hc0
      obtain ⟨_, g00, _⟩ := attr_cells ht0
      have y0 := (hat0 0 (by rw [hc2]; omega)).trans g00
      obtain ⟨b, o, spot⟩ := a
      have hspot : spot = none := by simpa [Addr.add] using World.cell?_spot y0
      subst hspot
      have ha : ∀ j, ((⟨b, o, none⟩ : Addr).add (i * 2)).add j = (⟨b, o, none⟩ : Addr).add (i * 2 + j) := by
        intro j
        rw [Addr.add_lit, Addr.add_lit, Addr.add_lit, Nat.add_assoc]
      rw [ha] at x0 x1
      exact ⟨u, x0, x1⟩)
    refine ⟨some a, (List.range l).map R, c, by simpa using h0, by rw [hx]; simpa using slice_bulk D l _, fun i him => ?_⟩
    have hil : i < l := by simpa using him
    obtain ⟨x0, x1⟩ := hR i hil
    obtain ⟨y0, _⟩ := hR 0 (by omega)
    obtain ⟨b, o, spot⟩ := a
    have hspot : spot = none := by simpa [Addr.add] using World.cell?_spot y0
    subst hspot
    rw [Addr.add_lit] at x0 x1
    refine ⟨b, o, rfl, ?_, ?_⟩
    · simpa using x0
    · simpa [Nat.add_assoc] using x1
set_option maxRecDepth 100000 in
theorem open_type {H : Type} {enc : TypeId × Value → H} {w : World} {held : Bool} {v : Value} {d : DataW H} {ps : List MemPlace} {r : Reach} {b0 : Nat} (hv : Value.okWide Tryd.prog w r b0 41 v)
    (h : DataW.Trod enc Tryd.prog w 0 (fun _ => true) held 41 v d ps) : ∃ (nm : ByteArray) (p : Option Addr) (l : List (ByteArray × Int)) (cap : Nat), v = .agg #[.string nm, .slice p l.length cap] ∧ l.length ≤ Rows.uptoBulk d ∧ AtRow w p l := by
  obtain ⟨v0, v1, y0, y1, m, rfl, rfl, _, h0, h1⟩ := Go.Joins.open_agg2 Tryd.underlying41 (by kernel_rfl) (by kernel_rfl) hv h
  obtain ⟨s, e0, rfl, hs⟩ := DataW.trod_string (by kernel_rfl) h0
  obtain ⟨p, l, cap, rfl, hl, hr⟩ := attrs_of h1
  obtain rfl : v0 = _ := by simpa using e0
  refine ⟨s, p, l, cap, rfl, ?_, hr⟩
  simp only [Rows.uptoBulk, Rows.uptoBulkAll]
  omega
set_option maxRecDepth 100000 in
theorem open_row {H : Type} {enc : TypeId × Value → H} {w : World} {held : Bool} {v : Value} {d : DataW H} {ps : List MemPlace} {r : Reach} {b0 : Nat} (hv : Value.okWide Tryd.prog w r b0 27 v)
    (h : DataW.Trod enc Tryd.prog w 0 (fun _ => true) held 27 v d ps) : ∃ (q : Option Addr) (C : List Cell) (cap : Nat), v = .slice q C.length cap ∧ CellsIn w q C ∧ C.length ≤ maxLen ∧ bulkC C ≤ Rows.uptoBulk d := by
  obtain ⟨p, len, cap, rfl⟩ := okWide_slice Tryd.underlying27 hv
  obtain ⟨fuel, hf⟩ := h
  simp only [Value.cells] at hf
  exact open_cells hf
end Go.Proofs.YtkficmbkoinjjaaDoor
