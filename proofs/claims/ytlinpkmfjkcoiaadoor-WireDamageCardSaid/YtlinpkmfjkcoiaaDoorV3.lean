/- An event that is handed in: what reads as one. -/
import Derived.Test.YtlinpkmfjkcoiaaDoorV2
import Derived.Lib.SmallJoins
namespace Go.Proofs.YtlinpkmfjkcoiaaDoor
open Go Go.ChangeShapes Go.WideShapes Go.ChangeAt Go.RowKit Go.Deep
set_option maxHeartbeats 1000000
set_option linter.unusedVariables false
set_option linter.unusedSimpArgs false
set_option maxRecDepth 100000 in
theorem value_cells {H : Type} {enc : TypeId × Value → H} {w : World} {base : Nat} {sp : Nat → Bool} {held : Bool} {fuel : Nat} {cs : List Value} {x : DataW H × List MemPlace}
    (h : DataW.trod enc Tryd.prog w base sp held fuel 96 cs = some x) :
    ∃ v : V4, I64 v.n ∧ cs[0]? = some (.int .i64 v.k) ∧ cs[1]? = some (.int .i64 v.n) ∧ cs[2]? = some (.string v.s) ∧ cs[3]? = some (.bool v.b) := by
  obtain ⟨xs, m, _, _, hlen, hxl, hf⟩ := DataW.trod_struct Tryd.underlying96 h
  have cut : ∀ (j : Nat) (v : Value), (cs.drop j).take 1 = [v] → cs[j]? = some v := by
    intro j v hc
    have := congrArg (·[0]?) hc
    simp only [List.getElem?_take, List.getElem?_drop, List.getElem?_cons_zero] at this
    simpa using this
  have get : ∀ j, j < 4 → ∃ y, xs[j]? = some y := fun j hj => ⟨xs[j]'(by rw [hxl]; exact hj), List.getElem?_eq_getElem _⟩
  obtain ⟨y0, g0⟩ := get 0 (by omega)
  obtain ⟨y1, g1⟩ := get 1 (by omega)
  obtain ⟨y2, g2⟩ := get 2 (by omega)
  obtain ⟨y3, g3⟩ := get 3 (by omega)
  have h0 := (hf 0 _ rfl).trans g0
  have h1 := (hf 1 _ rfl).trans g1
  have h2 := (hf 2 _ rfl).trans g2
  have h3 := (hf 3 _ rfl).trans g3
  obtain ⟨k, e0, _, _⟩ := DataW.trod_int (k := .i64) (by kernel_rfl) h0
  obtain ⟨n, e1, _, w1⟩ := DataW.trod_int (k := .i64) (by kernel_rfl) h1
  obtain ⟨s, e2, _, _⟩ := DataW.trod_string (by kernel_rfl) h2
  obtain ⟨b, e3, _⟩ := DataW.trod_bool (by kernel_rfl) h3
  have c3 : Tryd.prog.cellsOf 3 = 1 := by kernel_rfl
  have c2 : Tryd.prog.cellsOf 2 = 1 := by kernel_rfl
  have c9 : Tryd.prog.cellsOf 9 = 1 := by kernel_rfl
  have c4 : Tryd.prog.cellsOf 4 = 1 := by kernel_rfl
  replace e0 : (cs.drop 0).take (Tryd.prog.cellsOf 3) = _ := e0
  rw [c3] at e0
  replace e1 : (cs.drop 1).take (Tryd.prog.cellsOf 2) = _ := e1
  rw [c2] at e1
  replace e2 : (cs.drop 2).take (Tryd.prog.cellsOf 9) = _ := e2
  rw [c9] at e2
  replace e3 : (cs.drop 3).take (Tryd.prog.cellsOf 4) = _ := e3
  rw [c4] at e3
  exact ⟨⟨k, n, s, b⟩, i64_of_wf w1, cut 0 _ e0, cut 1 _ e1, cut 2 _ e2, cut 3 _ e3⟩
set_option maxRecDepth 100000 in
theorem values_of {H : Type} {enc : TypeId × Value → H} {w : World} {held : Bool} {fuel : Nat} {v : Value} {x : DataW H × List MemPlace} (hf : DataW.trod enc Tryd.prog w 0 (fun _ => true) held fuel 22 [v] = some x) :
    ∃ (p : Option Addr) (vl : List V4) (cap : Nat), v = .slice p vl.length cap ∧ vl.length ≤ maxLen ∧ ValRow w p vl ∧ ∀ u ∈ vl, In4 u := by
  rcases open_slice Tryd.underlying22 hf with ⟨h0, _⟩ | ⟨a, l, c, m, n, D, Pl, h0, _, hl, hm, hmm, _, hi⟩
  · simp only [List.cons.injEq, and_true] at h0
    exact ⟨none, [], 0, h0, Nat.zero_le _, fun i hi => absurd hi (Nat.not_lt_zero _), by simp⟩
  · simp only [List.cons.injEq, and_true] at h0
    have hc4 : Tryd.prog.cellsOf 96 = 4 := by kernel_rfl
    simp only [if_true] at hmm
    have each : ∀ i, i < l → ∃ u : V4, I64 u.n ∧ w.cell? (a.add (i * 4)) = some (.int .i64 u.k) ∧ w.cell? (a.add (i * 4 + 1)) = some (.int .i64 u.n) ∧ w.cell? (a.add (i * 4 + 2)) = some (.string u.s) ∧ w.cell? (a.add (i * 4 + 3)) = some (.bool u.b) := by
      intro i him
      obtain ⟨cs', hc, ht⟩ := hi i (by omega)
      obtain ⟨_, hcl, hat⟩ := World.cells?_some hc
      rw [hc4] at hat
      obtain ⟨u, hn, g0, g1, g2, g3⟩ := value_cells ht
      have x0 := (hat 0 (by omega)).trans g0
      have x1 := (hat 1 (by omega)).trans g1
      have x2 := (hat 2 (by omega)).trans g2
      have x3 := (hat 3 (by omega)).trans g3
      obtain ⟨cs0, hc0, ht0⟩ := hi 0 (by omega)
      obtain ⟨_, _, hat0⟩ := World.cells?_some hc0
      obtain ⟨_, _, g00, _, _, _⟩ := value_cells ht0
      have y0 := (hat0 0 (by rw [hc4]; omega)).trans g00
      obtain ⟨b, o, spot⟩ := a
      have hspot : spot = none := by simpa [Addr.add] using World.cell?_spot y0
      subst hspot
      have ha : ∀ j, ((⟨b, o, none⟩ : Addr).add (i * 4)).add j = (⟨b, o, none⟩ : Addr).add (i * 4 + j) := by
        intro j
        rw [Addr.add_lit, Addr.add_lit, Addr.add_lit, Nat.add_assoc]
      rw [ha] at x0 x1 x2 x3
      exact ⟨u, hn, x0, x1, x2, x3⟩
    have hex : ∃ f : Nat → V4, ∀ i, i < l → I64 (f i).n ∧ w.cell? (a.add (i * 4)) = some (.int .i64 (f i).k) ∧ w.cell? (a.add (i * 4 + 1)) = some (.int .i64 (f i).n) ∧ w.cell? (a.add (i * 4 + 2)) = some (.string (f i).s) ∧ w.cell? (a.add (i * 4 + 3)) = some (.bool (f i).b) := by
      have : ∀ i, ∃ u : V4, i < l → I64 u.n ∧ w.cell? (a.add (i * 4)) = some (.int .i64 u.k) ∧ w.cell? (a.add (i * 4 + 1)) = some (.int .i64 u.n) ∧ w.cell? (a.add (i * 4 + 2)) = some (.string u.s) ∧ w.cell? (a.add (i * 4 + 3)) = some (.bool u.b) := fun i => by
        by_cases h : i < l
        · obtain ⟨u, hu⟩ := each i h
          exact ⟨u, fun _ => hu⟩
        · exact ⟨⟨0, 0, ⟨#[]⟩, false⟩, fun h' => absurd h' h⟩
      exact ⟨fun i => Classical.choose (this i), fun i => Classical.choose_spec (this i)⟩
    obtain ⟨f, hfx⟩ := hex
    refine ⟨some a, (List.range l).map f, c, by simpa using h0, by simp; omega, fun i him => ?_, fun u hu => ?_⟩
    · have hil : i < l := by simpa using him
      obtain ⟨_, x0, x1, x2, x3⟩ := hfx i hil
      obtain ⟨_, y0, _⟩ := hfx 0 (by omega)
      obtain ⟨b, o, spot⟩ := a
      have hspot : spot = none := by simpa [Addr.add] using World.cell?_spot y0
      subst hspot
      rw [Addr.add_lit] at x0 x1 x2 x3
      refine ⟨b, o, rfl, ?_, ?_, ?_, ?_⟩
      · simpa using x0
      · simpa [Nat.add_assoc] using x1
      · simpa [Nat.add_assoc] using x2
      · simpa [Nat.add_assoc] using x3
    · obtain ⟨i, hi2, rfl⟩ := List.mem_map.1 hu
      exact (hfx i (List.mem_range.1 hi2)).1
set_option maxRecDepth 100000 in
theorem open_event {H : Type} {enc : TypeId × Value → H} {w : World} {held : Bool} {v : Value} {d : DataW H} {ps : List MemPlace} {r : Reach} {b0 : Nat} (hv : Value.okWide Tryd.prog w r b0 24 v)
    (h : DataW.Trod enc Tryd.prog w 0 (fun _ => true) held 24 v d ps) : ∃ (ty : ByteArray) (tm : Int) (p : Option Addr) (vl : List V4) (cap : Nat), v = .agg #[.string ty, .int .i64 tm, .slice p vl.length cap] ∧ I64 tm ∧ vl.length ≤ maxLen ∧ ValRow w p vl ∧ ∀ u ∈ vl, In4 u := by
  obtain ⟨v0, v1, v2, y0, y1, y2, m, rfl, _, _, h0, h1, h2⟩ := Go.Joins.open_agg3 Tryd.underlying24 (by kernel_rfl) (by kernel_rfl) hv h
  obtain ⟨s, e0, rfl, hs⟩ := DataW.trod_string (by kernel_rfl) h0
  obtain ⟨n, e1, rfl, w1⟩ := DataW.trod_int (k := .i64) (by kernel_rfl) h1
  obtain ⟨p, vl, cap, rfl, hl, hr, h4⟩ := values_of h2
  obtain rfl : v0 = _ := by simpa using e0
  obtain rfl : v1 = _ := by simpa using e1
  exact ⟨s, n, p, vl, cap, rfl, i64_of_wf w1, hl, hr, h4⟩
theorem bulk_pos {H : Type} (d : DataW H) : 1 ≤ Rows.uptoBulk d := by
  cases d with
  | lit l => cases l <;> simp [Rows.uptoBulk]
  | nil => simp [Rows.uptoBulk]
  | ptr d => simp [Rows.uptoBulk]
  | slice elems spare => simp [Rows.uptoBulk]
  | agg parts => simp [Rows.uptoBulk]
  | iface t d => simp [Rows.uptoBulk]
  | map entries => simp [Rows.uptoBulk]
  | held h => simp [Rows.uptoBulk]
theorem bulk_len {H : Type} (l : List (DataW H)) : l.length ≤ Rows.uptoBulkAll l := by
  induction l with
  | nil => simp [Rows.uptoBulkAll]
  | cons x r ih => have := bulk_pos x; simp only [Rows.uptoBulkAll, List.length_cons]; omega
/-- of bytes that are of bulk so small there are no more -/
theorem bytes_small {H : Type} {enc : TypeId × Value → H} {w : World} {held : Bool} {p : Option Addr} {n c B : Nat} {d : DataW H} {ps : List MemPlace} (h : DataW.Trod enc Tryd.prog w 0 (fun _ => true) held 25 (.slice p n c) d ps) (hb : Rows.uptoBulk d ≤ B) : n ≤ B := by
  obtain ⟨fuel, hf⟩ := h
  simp only [Value.cells] at hf
  rcases open_ints Tryd.underlying25 (k := .u8) (by kernel_rfl) (by kernel_rfl) hf with ⟨h0, _⟩ | ⟨a, l, cc, ss, h0, _, hl, hm, hmm, hx, hi, hw⟩
  · simp only [List.cons.injEq, Value.slice.injEq, and_true] at h0
    omega
  · simp only [List.cons.injEq, Value.slice.injEq, and_true] at h0
    obtain ⟨_, rfl, rfl⟩ := h0
    simp only [if_true] at hmm
    have hd := congrArg Prod.fst hx
    simp only at hd
    rw [hd] at hb
    simp only [Rows.uptoBulk] at hb
    have h1 := bulk_len ((lits IntKind.u8 (ss.take n)) : List (DataW H))
    simp only [lits, List.length_map, List.length_take] at h1
    simp only [lits] at hb
    omega
end Go.Proofs.YtlinpkmfjkcoiaaDoor
