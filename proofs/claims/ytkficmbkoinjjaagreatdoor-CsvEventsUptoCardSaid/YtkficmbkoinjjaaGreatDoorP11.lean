/- A type, an event and a row of cells that are handed in: what lies there. -/
import Derived.Deep.Slices
import Derived.Lib.SmallJoins
import Derived.Test.YtkficmbkoinjjaaGreatDoorE1
import Derived.Test.YtkficmbkoinjjaaGreatDoorP8
namespace Go.Proofs.YtkficmbkoinjjaaGreatDoor
open Go Go.ChangeShapes Go.WideShapes Go.ChangeAt Go.RowKit Go.Deep
open V
set_option maxHeartbeats 1000000
set_option linter.unusedVariables false
set_option linter.unusedSimpArgs false
theorem i64_of_wf {a : Int} (h : (Lit.int .i64 a).wf = true) : I64 a := by
  have hmin : IntKind.min .i64 = -9223372036854775808 := by decide
  have hmax : IntKind.max .i64 = 9223372036854775807 := by decide
  simp only [Lit.wf, hmin, hmax, Bool.and_eq_true, decide_eq_true_eq] at h
  exact h
set_option maxRecDepth 100000 in
theorem value_cells {H : Type} {enc : TypeId × Value → H} {w : World} {base : Nat} {sp : Nat → Bool} {held : Bool} {fuel : Nat} {cs : List Value} {x : DataW H × List MemPlace}
    (h : DataW.trod enc Tryz.prog w base sp held fuel 57 cs = some x) :
    ∃ v : V4, I64 v.n ∧ cs[0]? = some (.int .i64 v.k) ∧ cs[1]? = some (.int .i64 v.n) ∧ cs[2]? = some (.string v.s) ∧ cs[3]? = some (.bool v.b) := by
  obtain ⟨xs, m, _, _, hlen, hxl, hf⟩ := DataW.trod_struct Tryz.underlying57 h
  have cut : ∀ (j : Nat) (v : Value), (cs.drop j).take 1 = [v] → cs[j]? = some v := by
    intro j v hc
    have := congrArg (·[0]?) hc
    simp only [List.getElem?_take, List.getElem?_drop, List.getElem?_cons_zero] at this
    simpa using this
  have get : ∀ j, j < 4 → ∃ y, xs[j]? = some y := fun j hj => ⟨xs[j]'(by rw [hxl]; exact hj), List.getElem?_eq_getElem _⟩
  obtain ⟨y0, g0⟩ := get 0 (by omega)
  obtain ⟨y1, g1⟩ := get 1 (by omega)
  obtain ⟨y2, g2⟩ := get 2 (by omega)
  obtain ⟨y3, g3⟩ := get 3 (by omega)
  have h0 := (hf 0 _ rfl).trans g0
  have h1 := (hf 1 _ rfl).trans g1
  have h2 := (hf 2 _ rfl).trans g2
  have h3 := (hf 3 _ rfl).trans g3
  obtain ⟨k, e0, _, _⟩ := DataW.trod_int (k := .i64) (by kernel_rfl) h0
  obtain ⟨n, e1, _, w1⟩ := DataW.trod_int (k := .i64) (by kernel_rfl) h1
  obtain ⟨s, e2, _, _⟩ := DataW.trod_string (by kernel_rfl) h2
  obtain ⟨b, e3, _⟩ := DataW.trod_bool (by kernel_rfl) h3
  have c3 : Tryz.prog.cellsOf 3 = 1 := by kernel_rfl
  have c2 : Tryz.prog.cellsOf 2 = 1 := by kernel_rfl
  have c9 : Tryz.prog.cellsOf 9 = 1 := by kernel_rfl
  have c4 : Tryz.prog.cellsOf 4 = 1 := by kernel_rfl
  replace e0 : (cs.drop 0).take (Tryz.prog.cellsOf 3) = _ := e0
  rw [c3] at e0
  replace e1 : (cs.drop 1).take (Tryz.prog.cellsOf 2) = _ := e1
  rw [c2] at e1
  replace e2 : (cs.drop 2).take (Tryz.prog.cellsOf 9) = _ := e2
  rw [c9] at e2
  replace e3 : (cs.drop 3).take (Tryz.prog.cellsOf 4) = _ := e3
  rw [c4] at e3
  exact ⟨⟨k, n, s, b⟩, i64_of_wf w1, cut 0 _ e0, cut 1 _ e1, cut 2 _ e2, cut 3 _ e3⟩
theorem slice_bulk {H : Type} (D : Nat → DataW H) (l : Nat) (sp : List (DataW H)) : l ≤ Rows.uptoBulk (DataW.slice ((List.range l).map D) sp) := by
  have := bulk_len ((List.range l).map D)
  simp only [List.length_map, List.length_range] at this
  simp only [Rows.uptoBulk]
  omega
set_option maxRecDepth 100000 in
theorem values_of {H : Type} {enc : TypeId × Value → H} {w : World} {held : Bool} {fuel : Nat} {v : Value} {x : DataW H × List MemPlace} (hf : DataW.trod enc Tryz.prog w 0 (fun _ => true) held fuel 39 [v] = some x) :
    ∃ (p : Option Addr) (vl : List V4) (cap : Nat), v = .slice p vl.length cap ∧ (p = none → cap = 0) ∧ vl.length ≤ Rows.uptoBulk x.1 ∧ ValRow w p vl ∧ ∀ u ∈ vl, I64 u.n := by
  rcases open_slice Tryz.underlying39 hf with ⟨h0, _⟩ | ⟨a, l, c, m, n, D, Pl, h0, _, hl, hm, hmm, hx, hi⟩
  · simp only [List.cons.injEq, and_true] at h0
    exact ⟨none, [], 0, h0, fun _ => rfl, Nat.zero_le _, fun i hi => absurd hi (Nat.not_lt_zero _), by simp⟩
  · simp only [List.cons.injEq, and_true] at h0
    have hc4 : Tryz.prog.cellsOf 57 = 4 := by kernel_rfl
    simp only [if_true] at hmm
    have each : ∀ i, i < l → ∃ u : V4, I64 u.n ∧ w.cell? (a.add (i * 4)) = some (.int .i64 u.k) ∧ w.cell? (a.add (i * 4 + 1)) = some (.int .i64 u.n) ∧ w.cell? (a.add (i * 4 + 2)) = some (.string u.s) ∧ w.cell? (a.add (i * 4 + 3)) = some (.bool u.b) := by
      intro i him
      obtain ⟨cs', hc, ht⟩ := hi i (by omega)
      obtain ⟨_, hcl, hat⟩ := World.cells?_some hc
      rw [hc4] at hat
      obtain ⟨u, hn, g0, g1, g2, g3⟩ := value_cells ht
      have x0 := (hat 0 (by omega)).trans g0
      have x1 := (hat 1 (by omega)).trans g1
      have x2 := (hat 2 (by omega)).trans g2
      have x3 := (hat 3 (by omega)).trans g3
      obtain ⟨cs0, hc0, ht0⟩ := hi 0 (by omega)
      obtain ⟨_, _, hat0⟩ := World.cells?_some hc0
      obtain ⟨_, _, g00, _, _, _⟩ := value_cells ht0
      have y0 := (hat0 0 (by rw [hc4]; omega)).trans g00
      obtain ⟨b, o, spot⟩ := a
      have hspot : spot = none := by simpa [Addr.add] using World.cell?_spot y0
      subst hspot
      have ha : ∀ j, ((⟨b, o, none⟩ : Addr).add (i * 4)).add j = (⟨b, o, none⟩ : Addr).add (i * 4 + j) := by
        intro j
        rw [Addr.add_lit, Addr.add_lit, Addr.add_lit, Nat.add_assoc]
      rw [ha] at x0 x1 x2 x3
      exact ⟨u, hn, x0, x1, x2, x3⟩
    have hex : ∃ f : Nat → V4, ∀ i, i < l → I64 (f i).n ∧ w.cell? (a.add (i * 4)) = some (.int .i64 (f i).k) ∧ w.cell? (a.add (i * 4 + 1)) = some (.int .i64 (f i).n) ∧ w.cell? (a.add (i * 4 + 2)) = some (.string (f i).s) ∧ w.cell? (a.add (i * 4 + 3)) = some (.bool (f i).b) := by
      have : ∀ i, ∃ u : V4, i < l → I64 u.n ∧ w.cell? (a.add (i * 4)) = some (.int .i64 u.k) ∧ w.cell? (a.add (i * 4 + 1)) = some (.int .i64 u.n) ∧ w.cell? (a.add (i * 4 + 2)) = some (.string u.s) ∧ w.cell? (a.add (i * 4 + 3)) = some (.bool u.b) := fun i => by
        by_cases h : i < l
        · obtain ⟨u, hu⟩ := each i h
          exact ⟨u, fun _ => hu⟩
        · exact ⟨⟨0, 0, ⟨#[]⟩, false⟩, fun h' => absurd h' h⟩
      exact ⟨fun i => Classical.choose (this i), fun i => Classical.choose_spec (this i)⟩
    obtain ⟨f, hfx⟩ := hex
    refine ⟨some a, (List.range l).map f, c, by simpa using h0, (fun h => by cases h), by rw [hx]; simpa using slice_bulk D l _, fun i him => ?_, fun u hu => ?_⟩
    · have hil : i < l := by simpa using him
      obtain ⟨_, x0, x1, x2, x3⟩ := hfx i hil
      obtain ⟨_, y0, _⟩ := hfx 0 (by omega)
      obtain ⟨b, o, spot⟩ := a
      have hspot : spot = none := by simpa [Addr.add] using World.cell?_spot y0
      subst hspot
      rw [Addr.add_lit] at x0 x1 x2 x3
      refine ⟨b, o, rfl, ?_, ?_, ?_, ?_⟩
      · simpa using x0
      · simpa [Nat.add_assoc] using x1
      · simpa [Nat.add_assoc] using x2
      · simpa [Nat.add_assoc] using x3
    · obtain ⟨i, hi2, rfl⟩ := List.mem_map.1 hu
      exact (hfx i (List.mem_range.1 hi2)).1

set_option maxRecDepth 100000 in
theorem open_event {H : Type} {enc : TypeId × Value → H} {w : World} {held : Bool} {v : Value} {d : DataW H} {ps : List MemPlace} {r : Reach} {b0 : Nat} (hv : Value.okWide Tryz.prog w r b0 41 v)
    (h : DataW.Trod enc Tryz.prog w 0 (fun _ => true) held 41 v d ps) : ∃ (ty : ByteArray) (tm : Int) (p : Option Addr) (vl : List V4) (cap : Nat), v = .agg #[.string ty, .int .i64 tm, .slice p vl.length cap] ∧ (p = none → cap = 0) ∧ I64 tm ∧ vl.length ≤ Rows.uptoBulk d ∧ ValRow w p vl ∧ ∀ u ∈ vl, I64 u.n := by
  obtain ⟨v0, v1, v2, y0, y1, y2, m, rfl, rfl, _, h0, h1, h2⟩ := Go.Joins.open_agg3 Tryz.underlying41 (by kernel_rfl) (by kernel_rfl) hv h
  obtain ⟨s, e0, rfl, hs⟩ := DataW.trod_string (by kernel_rfl) h0
  obtain ⟨n, e1, rfl, w1⟩ := DataW.trod_int (k := .i64) (by kernel_rfl) h1
  obtain ⟨p, vl, cap, rfl, hnc, hl, hr, h4⟩ := values_of h2
  obtain rfl : v0 = _ := by simpa using e0
  obtain rfl : v1 = _ := by simpa using e1
  refine ⟨s, n, p, vl, cap, rfl, hnc, i64_of_wf w1, ?_, hr, h4⟩
  simp only [Rows.uptoBulk, Rows.uptoBulkAll]
  omega
set_option maxRecDepth 100000 in
theorem attr_cells {H : Type} {enc : TypeId × Value → H} {w : World} {base : Nat} {sp : Nat → Bool} {held : Bool} {fuel : Nat} {cs : List Value} {x : DataW H × List MemPlace}
    (h : DataW.trod enc Tryz.prog w base sp held fuel 52 cs = some x) :
    ∃ a : ByteArray × Int, cs[0]? = some (.string a.1) ∧ cs[1]? = some (.int .i64 a.2) := by
  obtain ⟨xs, m, _, _, hlen, hxl, hf⟩ := DataW.trod_struct Tryz.underlying52 h
  have cut : ∀ (j : Nat) (v : Value), (cs.drop j).take 1 = [v] → cs[j]? = some v := by
    intro j v hc
    have := congrArg (·[0]?) hc
    simp only [List.getElem?_take, List.getElem?_drop, List.getElem?_cons_zero] at this
    simpa using this
  have get : ∀ j, j < 2 → ∃ y, xs[j]? = some y := fun j hj => ⟨xs[j]'(by rw [hxl]; exact hj), List.getElem?_eq_getElem _⟩
  obtain ⟨y0, g0⟩ := get 0 (by omega)
  obtain ⟨y1, g1⟩ := get 1 (by omega)
  have h0 := (hf 0 _ rfl).trans g0
  have h1 := (hf 1 _ rfl).trans g1
  obtain ⟨s, e0, _, _⟩ := DataW.trod_string (by kernel_rfl) h0
  obtain ⟨k, e1, _, _⟩ := DataW.trod_int (k := .i64) (by kernel_rfl) h1
  have c3 : Tryz.prog.cellsOf 3 = 1 := by kernel_rfl
  have c9 : Tryz.prog.cellsOf 9 = 1 := by kernel_rfl
  replace e0 : (cs.drop 0).take (Tryz.prog.cellsOf 9) = _ := e0
  rw [c9] at e0
  replace e1 : (cs.drop 1).take (Tryz.prog.cellsOf 3) = _ := e1
  rw [c3] at e1
  exact ⟨(s, k), cut 0 _ e0, cut 1 _ e1⟩
set_option maxRecDepth 100000 in
theorem attrs_of {H : Type} {enc : TypeId × Value → H} {w : World} {held : Bool} {fuel : Nat} {v : Value} {x : DataW H × List MemPlace} (hf : DataW.trod enc Tryz.prog w 0 (fun _ => true) held fuel 23 [v] = some x) :
    ∃ (p : Option Addr) (l : List (ByteArray × Int)) (cap : Nat), v = .slice p l.length cap ∧ (p = none → cap = 0) ∧ l.length ≤ Rows.uptoBulk x.1 ∧ AtRow w p l := by
  rcases open_slice Tryz.underlying23 hf with ⟨h0, _⟩ | ⟨a, l, c, m, n, D, Pl, h0, _, hl, hm, hmm, hx, hi⟩
  · simp only [List.cons.injEq, and_true] at h0
    exact ⟨none, [], 0, h0, fun _ => rfl, Nat.zero_le _, fun i hi => absurd hi (Nat.not_lt_zero _)⟩
  · simp only [List.cons.injEq, and_true] at h0
    have hc2 : Tryz.prog.cellsOf 52 = 2 := by kernel_rfl
    simp only [if_true] at hmm
    obtain ⟨R, hR⟩ := choose_lt (n := l) (α := ByteArray × Int) (p := fun i u => w.cell? (a.add (i * 2)) = some (.string u.1) ∧ w.cell? (a.add (i * 2 + 1)) = some (.int .i64 u.2)) (fun i him => by
      obtain ⟨cs', hc, ht⟩ := hi i (by omega)
      obtain ⟨_, hcl, hat⟩ := World.cells?_some hc
      rw [hc2] at hat
      obtain ⟨u, g0, g1⟩ := attr_cells ht
      have x0 := (hat 0 (by omega)).trans g0
      have x1 := (hat 1 (by omega)).trans g1
      obtain ⟨cs0, hc0, ht0⟩ := hi 0 (by omega)
      obtain ⟨_, _, hat0⟩ := World.cells?_some hc0
      obtain ⟨_, g00, _⟩ := attr_cells ht0
      have y0 := (hat0 0 (by rw [hc2]; omega)).trans g00
      obtain ⟨b, o, spot⟩ := a
      have hspot : spot = none := by simpa [Addr.add] using World.cell?_spot y0
      subst hspot
      have ha : ∀ j, ((⟨b, o, none⟩ : Addr).add (i * 2)).add j = (⟨b, o, none⟩ : Addr).add (i * 2 + j) := by
        intro j
        rw [Addr.add_lit, Addr.add_lit, Addr.add_lit, Nat.add_assoc]
      rw [ha] at x0 x1
      exact ⟨u, x0, x1⟩)
    refine ⟨some a, (List.range l).map R, c, by simpa using h0, (fun h => by cases h), by rw [hx]; simpa using slice_bulk D l _, fun i him => ?_⟩
    have hil : i < l := by simpa using him
    obtain ⟨x0, x1⟩ := hR i hil
    obtain ⟨y0, _⟩ := hR 0 (by omega)
    obtain ⟨b, o, spot⟩ := a
    have hspot : spot = none := by simpa [Addr.add] using World.cell?_spot y0
    subst hspot
    rw [Addr.add_lit] at x0 x1
    refine ⟨b, o, rfl, ?_, ?_⟩
    · simpa using x0
    · simpa [Nat.add_assoc] using x1
set_option maxRecDepth 100000 in
theorem open_type {H : Type} {enc : TypeId × Value → H} {w : World} {held : Bool} {v : Value} {d : DataW H} {ps : List MemPlace} {r : Reach} {b0 : Nat} (hv : Value.okWide Tryz.prog w r b0 25 v)
    (h : DataW.Trod enc Tryz.prog w 0 (fun _ => true) held 25 v d ps) : ∃ (nm : ByteArray) (p : Option Addr) (l : List (ByteArray × Int)) (cap : Nat), v = .agg #[.string nm, .slice p l.length cap] ∧ (p = none → cap = 0) ∧ l.length ≤ Rows.uptoBulk d ∧ AtRow w p l := by
  obtain ⟨v0, v1, y0, y1, m, rfl, rfl, _, h0, h1⟩ := Go.Joins.open_agg2 Tryz.underlying25 (by kernel_rfl) (by kernel_rfl) hv h
  obtain ⟨s, e0, rfl, hs⟩ := DataW.trod_string (by kernel_rfl) h0
  obtain ⟨p, l, cap, rfl, hnc, hl, hr⟩ := attrs_of h1
  obtain rfl : v0 = _ := by simpa using e0
  refine ⟨s, p, l, cap, rfl, hnc, ?_, hr⟩
  simp only [Rows.uptoBulk, Rows.uptoBulkAll]
  omega
set_option maxRecDepth 100000 in
theorem open_row {H : Type} {enc : TypeId × Value → H} {w : World} {held : Bool} {v : Value} {d : DataW H} {ps : List MemPlace} {r : Reach} {b0 : Nat} (hv : Value.okWide Tryz.prog w r b0 22 v)
    (h : DataW.Trod enc Tryz.prog w 0 (fun _ => true) held 22 v d ps) : ∃ (q : Option Addr) (C : List Cell) (cap : Nat), v = .slice q C.length cap ∧ CellsIn w q C ∧ C.length ≤ maxLen ∧ bulkC C ≤ Rows.uptoBulk d := by
  obtain ⟨p, len, cap, rfl⟩ := okWide_slice Tryz.underlying22 hv
  obtain ⟨fuel, hf⟩ := h
  simp only [Value.cells] at hf
  exact open_cells hf
end Go.Proofs.YtkficmbkoinjjaaGreatDoor
/- Rows of events that are handed in, and how much of them there is. -/
namespace Go.Proofs.YtkficmbkoinjjaaGreatDoor
open Go Go.ChangeShapes Go.WideShapes Go.ChangeAt Go.RowKit Go.Deep
open V
set_option maxHeartbeats 1000000
set_option linter.unusedVariables false
set_option linter.unusedSimpArgs false
theorem bulk_in {H : Type} : ∀ {l : List (DataW H)} {d : DataW H}, d ∈ l → Rows.uptoBulk d ≤ Rows.uptoBulkAll l
  | x :: l, d, h => by
    simp only [Rows.uptoBulkAll]
    rcases List.mem_cons.1 h with rfl | h
    · omega
    · have := bulk_in h
      omega
/-- events lie there, none of more than B values -/
def Evts (w : World) (p : Option Addr) (n B : Nat) : Prop := ∀ i, i < n → ∃ (b o : Nat) (ty : ByteArray) (tm : Int) (q : Option Addr) (vl : List V4) (d : Nat), p = some ⟨b, o, none⟩ ∧ w.cell? ⟨b, o + i * 3, none⟩ = some (.string ty) ∧ w.cell? ⟨b, o + i * 3 + 1, none⟩ = some (.int .i64 tm) ∧ w.cell? ⟨b, o + i * 3 + 2, none⟩ = some (.slice q vl.length d) ∧
  (q = none → d = 0) ∧ I64 tm ∧ vl.length ≤ B ∧ ValRow w q vl ∧ ∀ u ∈ vl, I64 u.n
theorem Evts.below {w w' : World} {p : Option Addr} {n B : Nat} (h : Evts w p n B) (hb : Below w.heap.size w w') : Evts w' p n B := by
  intro i hi
  obtain ⟨b, o, ty, tm, q, vl, d, e, c0, c1, c2, h0, h1, h2, h3, h4⟩ := h i hi
  have hl := lt_of_cell c0
  exact ⟨b, o, ty, tm, q, vl, d, e, (hb.cell (p := ⟨b, o + i * 3, none⟩) hl).trans c0, (hb.cell (p := ⟨b, o + i * 3 + 1, none⟩) hl).trans c1, (hb.cell (p := ⟨b, o + i * 3 + 2, none⟩) hl).trans c2, h0, h1, h2, h3.below hb, h4⟩
set_option maxRecDepth 100000 in
theorem event_cells {H : Type} {enc : TypeId × Value → H} {w : World} {held : Bool} {fuel : Nat} {cs : List Value} {x : DataW H × List MemPlace} (h : DataW.trod enc Tryz.prog w 0 (fun _ => true) held fuel 41 cs = some x) :
    ∃ (ty : ByteArray) (tm : Int) (q : Option Addr) (vl : List V4) (d : Nat), cs[0]? = some (.string ty) ∧ cs[1]? = some (.int .i64 tm) ∧ cs[2]? = some (.slice q vl.length d) ∧ (q = none → d = 0) ∧ I64 tm ∧ vl.length ≤ Rows.uptoBulk x.1 ∧ ValRow w q vl ∧ ∀ u ∈ vl, I64 u.n := by
  obtain ⟨xs, m, _, hx, hlen, hxl, hf⟩ := DataW.trod_struct Tryz.underlying41 h
  have cut : ∀ (j : Nat) (v : Value), (cs.drop j).take 1 = [v] → cs[j]? = some v := by
    intro j v hc
    have := congrArg (·[0]?) hc
    simp only [List.getElem?_take, List.getElem?_drop, List.getElem?_cons_zero] at this
    simpa using this
  have get : ∀ j, j < 3 → ∃ y, xs[j]? = some y := fun j hj => ⟨xs[j]'(by rw [hxl]; exact hj), List.getElem?_eq_getElem _⟩
  obtain ⟨y0, g0⟩ := get 0 (by omega)
  obtain ⟨y1, g1⟩ := get 1 (by omega)
  obtain ⟨y2, g2⟩ := get 2 (by omega)
  have h0 := (hf 0 _ rfl).trans g0
  have h1 := (hf 1 _ rfl).trans g1
  have h2 := (hf 2 _ rfl).trans g2
  obtain ⟨s, e0, _, _⟩ := DataW.trod_string (by kernel_rfl) h0
  obtain ⟨n, e1, _, w1⟩ := DataW.trod_int (k := .i64) (by kernel_rfl) h1
  have c2 : Tryz.prog.cellsOf 2 = 1 := by kernel_rfl
  have c9 : Tryz.prog.cellsOf 9 = 1 := by kernel_rfl
  have c39 : Tryz.prog.cellsOf 39 = 1 := by kernel_rfl
  replace e0 : (cs.drop 0).take (Tryz.prog.cellsOf 9) = _ := e0
  rw [c9] at e0
  replace e1 : (cs.drop 1).take (Tryz.prog.cellsOf 2) = _ := e1
  rw [c2] at e1
  replace h2 : DataW.trod enc Tryz.prog w 0 (fun _ => true) held m 39 ((cs.drop 2).take (Tryz.prog.cellsOf 39)) = some y2 := h2
  rw [c39] at h2
  have hw2 : Rows.uptoBulk y2.1 ≤ Rows.uptoBulk x.1 := by
    rw [hx]
    have := bulk_in (l := xs.map (·.1)) (d := y2.1) (List.mem_of_getElem? (i := 2) (by rw [List.getElem?_map, g2]; rfl))
    simp only [Rows.uptoBulk]
    omega
  have hv : ∃ v, (cs.drop 2).take 1 = [v] := by
    rcases open_slice Tryz.underlying39 h2 with ⟨h0, _⟩ | ⟨a, l, c, m, n, D, Pl, h0, _⟩
    · exact ⟨_, h0⟩
    · exact ⟨_, h0⟩
  obtain ⟨v, hv⟩ := hv
  rw [hv] at h2
  obtain ⟨q, vl, d, rfl, a0, a1, a2, a3⟩ := values_of h2
  exact ⟨s, n, q, vl, d, cut 0 _ e0, cut 1 _ e1, cut 2 _ hv, a0, i64_of_wf w1, Nat.le_trans a1 hw2, a2, a3⟩
set_option maxRecDepth 100000 in
theorem open_events {H : Type} {enc : TypeId × Value → H} {w : World} {held : Bool} {v : Value} {d : DataW H} {ps : List MemPlace} {r : Reach} {b0 : Nat} (hv : Value.okWide Tryz.prog w r b0 49 v)
    (h : DataW.Trod enc Tryz.prog w 0 (fun _ => true) held 49 v d ps) : ∃ p len cap, v = .slice p len cap ∧ len ≤ Rows.uptoBulk d ∧ Evts w p len (Rows.uptoBulk d) := by
  obtain ⟨p, len, cap, rfl⟩ := okWide_slice Tryz.underlying49 hv
  obtain ⟨fuel, hf⟩ := h
  simp only [Value.cells] at hf
  refine ⟨p, len, cap, rfl, ?_⟩
  rcases open_slice Tryz.underlying49 hf with ⟨h0, _⟩ | ⟨a, l, c, m, n, D, Pl, h0, _, hl, hm, hmm, hx, hi⟩
  · simp only [List.cons.injEq, Value.slice.injEq, and_true] at h0
    obtain ⟨rfl, rfl, rfl⟩ := h0
    exact ⟨Nat.zero_le _, fun i hi => absurd hi (Nat.not_lt_zero _)⟩
  · simp only [List.cons.injEq, Value.slice.injEq, and_true] at h0
    obtain ⟨rfl, rfl, rfl⟩ := h0
    have hc3 : Tryz.prog.cellsOf 41 = 3 := by kernel_rfl
    simp only [if_true] at hmm
    have hd := congrArg Prod.fst hx
    simp only at hd
    have hwt : ∀ i, i < len → Rows.uptoBulk (D i) ≤ Rows.uptoBulk d := fun i him => by
      rw [hd]
      have := bulk_in (l := (List.range len).map D) (d := D i) (List.mem_map.2 ⟨i, List.mem_range.2 him, rfl⟩)
      simp only [Rows.uptoBulk]
      omega
    have each : ∀ i, i < len → ∃ (ty : ByteArray) (tm : Int) (q : Option Addr) (vl : List V4) (d' : Nat), w.cell? (a.add (i * 3)) = some (.string ty) ∧ w.cell? (a.add (i * 3 + 1)) = some (.int .i64 tm) ∧ w.cell? (a.add (i * 3 + 2)) = some (.slice q vl.length d') ∧ (q = none → d' = 0) ∧ I64 tm ∧ vl.length ≤ Rows.uptoBulk d ∧ ValRow w q vl ∧ ∀ u ∈ vl, I64 u.n := by
      intro i him
      obtain ⟨cs', hc, ht⟩ := hi i (by omega)
      obtain ⟨_, hcl, hat⟩ := World.cells?_some hc
      rw [hc3] at hat
      obtain ⟨ty, tm, q, vl, d', g0, g1, g2, a0, a1, a2, a3, a4⟩ := event_cells ht
      have x0 := (hat 0 (by omega)).trans g0
      have x1 := (hat 1 (by omega)).trans g1
      have x2 := (hat 2 (by omega)).trans g2
      obtain ⟨cs0, hc0, ht0⟩ := hi 0 (by omega)
      obtain ⟨_, _, hat0⟩ := World.cells?_some hc0
      obtain ⟨_, _, _, _, _, g00, _⟩ := event_cells ht0
      have y0 := (hat0 0 (by rw [hc3]; omega)).trans g00
      obtain ⟨b, o, spot⟩ := a
      have hspot : spot = none := by simpa [Addr.add] using World.cell?_spot y0
      subst hspot
      have ha : ∀ j, ((⟨b, o, none⟩ : Addr).add (i * 3)).add j = (⟨b, o, none⟩ : Addr).add (i * 3 + j) := by
        intro j
        rw [Addr.add_lit, Addr.add_lit, Addr.add_lit, Nat.add_assoc]
      rw [ha] at x0 x1 x2
      exact ⟨ty, tm, q, vl, d', x0, x1, x2, a0, a1, Nat.le_trans a2 (hwt i him), a3, a4⟩
    refine ⟨by rw [hd]; exact slice_bulk D len _, fun i him => ?_⟩
    obtain ⟨ty, tm, q, vl, d', x0, x1, x2, a0, a1, a2, a3, a4⟩ := each i him
    obtain ⟨_, _, _, _, _, y0, _⟩ := each 0 (by omega)
    obtain ⟨b, o, spot⟩ := a
    have hspot : spot = none := by simpa [Addr.add] using World.cell?_spot y0
    subst hspot
    rw [Addr.add_lit] at x0 x1 x2
    exact ⟨b, o, ty, tm, q, vl, d', rfl, by simpa using x0, by simpa [Nat.add_assoc] using x1, by simpa [Nat.add_assoc] using x2, a0, a1, a2, a3, a4⟩
end Go.Proofs.YtkficmbkoinjjaaGreatDoor
