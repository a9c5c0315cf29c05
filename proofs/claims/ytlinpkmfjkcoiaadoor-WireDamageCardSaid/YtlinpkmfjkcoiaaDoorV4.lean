/- Rows of events that are handed in. -/
import Derived.Test.YtlinpkmfjkcoiaaDoorV3
namespace Go.Proofs.YtlinpkmfjkcoiaaDoor
open Go Go.ChangeShapes Go.WideShapes Go.ChangeAt Go.RowKit Go.Deep
set_option maxHeartbeats 1000000
set_option linter.unusedVariables false
set_option linter.unusedSimpArgs false
/-- events lie there -/
def Evts (w : World) (p : Option Addr) (n : Nat) : Prop := ∀ i, i < n → ∃ (b o : Nat) (ty : ByteArray) (tm : Int) (q : Option Addr) (vl : List V4) (d : Nat), p = some ⟨b, o, none⟩ ∧ w.cell? ⟨b, o + i * 3, none⟩ = some (.string ty) ∧ w.cell? ⟨b, o + i * 3 + 1, none⟩ = some (.int .i64 tm) ∧ w.cell? ⟨b, o + i * 3 + 2, none⟩ = some (.slice q vl.length d) ∧
  I64 tm ∧ vl.length * 40 ≤ 140737488351232 ∧ ValRow w q vl ∧ ∀ u ∈ vl, In4 u
theorem Evts.below {w w' : World} {p : Option Addr} {n : Nat} (h : Evts w p n) (hb : Below w.heap.size w w') : Evts w' p n := by
  intro i hi
  obtain ⟨b, o, ty, tm, q, vl, d, e, c0, c1, c2, h1, h2, h3, h4⟩ := h i hi
  have hl := lt_of_cell c0
  exact ⟨b, o, ty, tm, q, vl, d, e, (hb.cell (p := ⟨b, o + i * 3, none⟩) hl).trans c0, (hb.cell (p := ⟨b, o + i * 3 + 1, none⟩) hl).trans c1, (hb.cell (p := ⟨b, o + i * 3 + 2, none⟩) hl).trans c2, h1, h2, h3.below hb, h4⟩
set_option maxRecDepth 100000 in
theorem values_w {H : Type} {enc : TypeId × Value → H} {w : World} {held : Bool} {fuel : Nat} {v : Value} {x : DataW H × List MemPlace} (hf : DataW.trod enc Tryd.prog w 0 (fun _ => true) held fuel 22 [v] = some x) (hs : ∀ n ∈ x.1.weights Tryd.prog 22, n ≤ reachBytes) :
    ∃ (p : Option Addr) (vl : List V4) (cap : Nat), v = .slice p vl.length cap ∧ vl.length * 40 ≤ 140737488351232 ∧ ValRow w p vl ∧ ∀ u ∈ vl, In4 u := by
  obtain ⟨p, vl, cap, rfl, hl, hr, h4⟩ := values_of hf
  refine ⟨p, vl, cap, rfl, ?_, hr, h4⟩
  rcases open_slice Tryd.underlying22 hf with ⟨h0, _⟩ | ⟨a, l, c, m, n, D, Pl, h0, _, hlc, hm, hmm, hx, hi⟩
  · simp only [List.cons.injEq, Value.slice.injEq, and_true] at h0
    omega
  · simp only [List.cons.injEq, Value.slice.injEq, and_true] at h0
    obtain ⟨_, h1, _⟩ := h0
    have hre : reachBytes = 140737488351232 := by decide
    have hby : Tryd.prog.bytesOf 96 = 40 := by kernel_rfl
    have hd := congrArg Prod.fst hx
    simp only at hd
    rw [hd] at hs
    have := hs ((l + (m - l)) * 40) (by
      unfold DataW.weights
      rw [Tryd.underlying22]
      simp only [hby]
      refine List.mem_cons.2 (.inl ?_)
      simp)
    rw [hre] at this
    have h2 : vl.length * 40 ≤ (l + (m - l)) * 40 := Nat.mul_le_mul_right _ (by omega)
    omega
set_option maxRecDepth 100000 in
theorem event_cells {H : Type} {enc : TypeId × Value → H} {w : World} {held : Bool} {fuel : Nat} {cs : List Value} {x : DataW H × List MemPlace} (h : DataW.trod enc Tryd.prog w 0 (fun _ => true) held fuel 24 cs = some x) (hs : ∀ n ∈ x.1.weights Tryd.prog 24, n ≤ reachBytes) :
    ∃ (ty : ByteArray) (tm : Int) (q : Option Addr) (vl : List V4) (d : Nat), cs[0]? = some (.string ty) ∧ cs[1]? = some (.int .i64 tm) ∧ cs[2]? = some (.slice q vl.length d) ∧ I64 tm ∧ vl.length * 40 ≤ 140737488351232 ∧ ValRow w q vl ∧ ∀ u ∈ vl, In4 u := by
  obtain ⟨xs, m, _, hx, hlen, hxl, hf⟩ := DataW.trod_struct Tryd.underlying24 h
  have cut : ∀ (j : Nat) (v : Value), (cs.drop j).take 1 = [v] → cs[j]? = some v := by
    intro j v hc
    have := congrArg (·[0]?) hc
    simp only [List.getElem?_take, List.getElem?_drop, List.getElem?_cons_zero] at this
    simpa using this
  have get : ∀ j, j < 3 → ∃ y, xs[j]? = some y := fun j hj => ⟨xs[j]'(by rw [hxl]; exact hj), List.getElem?_eq_getElem _⟩
  obtain ⟨y0, g0⟩ := get 0 (by omega)
  obtain ⟨y1, g1⟩ := get 1 (by omega)
  obtain ⟨y2, g2⟩ := get 2 (by omega)
  have h0 := (hf 0 _ rfl).trans g0
  have h1 := (hf 1 _ rfl).trans g1
  have h2 := (hf 2 _ rfl).trans g2
  obtain ⟨s, e0, _, _⟩ := DataW.trod_string (by kernel_rfl) h0
  obtain ⟨n, e1, _, w1⟩ := DataW.trod_int (k := .i64) (by kernel_rfl) h1
  have c2 : Tryd.prog.cellsOf 2 = 1 := by kernel_rfl
  have c9 : Tryd.prog.cellsOf 9 = 1 := by kernel_rfl
  have c22 : Tryd.prog.cellsOf 22 = 1 := by kernel_rfl
  replace e0 : (cs.drop 0).take (Tryd.prog.cellsOf 9) = _ := e0
  rw [c9] at e0
  replace e1 : (cs.drop 1).take (Tryd.prog.cellsOf 2) = _ := e1
  rw [c2] at e1
  replace h2 : DataW.trod enc Tryd.prog w 0 (fun _ => true) held m 22 ((cs.drop 2).take (Tryd.prog.cellsOf 22)) = some y2 := h2
  rw [c22] at h2
  have hw2 : ∀ n ∈ y2.1.weights Tryd.prog 22, n ≤ reachBytes := fun n hn => hs n (by
    rw [hx]
    simp only
    unfold DataW.weights
    rw [Tryd.underlying24]
    simp only
    exact DataW.weights_mem_each (j := 2) (t := 22) (d := y2.1) rfl (by rw [List.getElem?_map, g2]; rfl) n hn)
  have hv : ∃ v, (cs.drop 2).take 1 = [v] := by
    rcases open_slice Tryd.underlying22 h2 with ⟨h0, _⟩ | ⟨a, l, c, m, n, D, Pl, h0, _⟩
    · exact ⟨_, h0⟩
    · exact ⟨_, h0⟩
  obtain ⟨v, hv⟩ := hv
  rw [hv] at h2
  obtain ⟨q, vl, d, rfl, a1, a2, a3⟩ := values_w h2 hw2
  exact ⟨s, n, q, vl, d, cut 0 _ e0, cut 1 _ e1, cut 2 _ hv, i64_of_wf w1, a1, a2, a3⟩
set_option maxRecDepth 100000 in
theorem open_events {H : Type} {enc : TypeId × Value → H} {w : World} {held : Bool} {v : Value} {d : DataW H} {ps : List MemPlace} {r : Reach} {b0 : Nat} (hv : Value.okWide Tryd.prog w r b0 38 v)
    (h : DataW.Trod enc Tryd.prog w 0 (fun _ => true) held 38 v d ps) (hs : ∀ n ∈ d.weights Tryd.prog 38, n ≤ reachBytes) : ∃ p len cap, v = .slice p len cap ∧ len ≤ maxLen ∧ Evts w p len := by
  obtain ⟨p, len, cap, rfl⟩ := okWide_slice Tryd.underlying38 hv
  obtain ⟨fuel, hf⟩ := h
  simp only [Value.cells] at hf
  refine ⟨p, len, cap, rfl, ?_⟩
  rcases open_slice Tryd.underlying38 hf with ⟨h0, _⟩ | ⟨a, l, c, m, n, D, Pl, h0, _, hl, hm, hmm, hx, hi⟩
  · simp only [List.cons.injEq, Value.slice.injEq, and_true] at h0
    obtain ⟨rfl, rfl, rfl⟩ := h0
    exact ⟨Nat.zero_le _, fun i hi => absurd hi (Nat.not_lt_zero _)⟩
  · simp only [List.cons.injEq, Value.slice.injEq, and_true] at h0
    obtain ⟨rfl, rfl, rfl⟩ := h0
    have hc3 : Tryd.prog.cellsOf 24 = 3 := by kernel_rfl
    simp only [if_true] at hmm
    have hd := congrArg Prod.fst hx
    simp only at hd
    have hwt : ∀ i, i < len → ∀ n ∈ (D i).weights Tryd.prog 24, n ≤ reachBytes := fun i him n hn => hs n (by
      rw [hd]
      unfold DataW.weights
      rw [Tryd.underlying38]
      exact List.mem_cons_of_mem _ (List.mem_append_left _ (weightsAll_mem (List.mem_map.2 ⟨i, List.mem_range.2 him, rfl⟩) n hn)))
    have each : ∀ i, i < len → ∃ (ty : ByteArray) (tm : Int) (q : Option Addr) (vl : List V4) (d : Nat), w.cell? (a.add (i * 3)) = some (.string ty) ∧ w.cell? (a.add (i * 3 + 1)) = some (.int .i64 tm) ∧ w.cell? (a.add (i * 3 + 2)) = some (.slice q vl.length d) ∧ I64 tm ∧ vl.length * 40 ≤ 140737488351232 ∧ ValRow w q vl ∧ ∀ u ∈ vl, In4 u := by
      intro i him
      obtain ⟨cs', hc, ht⟩ := hi i (by omega)
      obtain ⟨_, hcl, hat⟩ := World.cells?_some hc
      rw [hc3] at hat
      obtain ⟨ty, tm, q, vl, d, g0, g1, g2, a1, a2, a3, a4⟩ := event_cells ht (hwt i him)
      have x0 := (hat 0 (by omega)).trans g0
      have x1 := (hat 1 (by omega)).trans g1
      have x2 := (hat 2 (by omega)).trans g2
      obtain ⟨cs0, hc0, ht0⟩ := hi 0 (by omega)
      obtain ⟨_, _, hat0⟩ := World.cells?_some hc0
      obtain ⟨_, _, _, _, _, g00, _⟩ := event_cells ht0 (hwt 0 (by omega))
      have y0 := (hat0 0 (by rw [hc3]; omega)).trans g00
      obtain ⟨b, o, spot⟩ := a
      have hspot : spot = none := by simpa [Addr.add] using World.cell?_spot y0
      subst hspot
      have ha : ∀ j, ((⟨b, o, none⟩ : Addr).add (i * 3)).add j = (⟨b, o, none⟩ : Addr).add (i * 3 + j) := by
        intro j
        rw [Addr.add_lit, Addr.add_lit, Addr.add_lit, Nat.add_assoc]
      rw [ha] at x0 x1 x2
      exact ⟨ty, tm, q, vl, d, x0, x1, x2, a1, a2, a3, a4⟩
    refine ⟨Nat.le_trans hl hm, fun i him => ?_⟩
    obtain ⟨ty, tm, q, vl, d, x0, x1, x2, a1, a2, a3, a4⟩ := each i him
    obtain ⟨_, _, _, _, _, y0, _⟩ := each 0 (by omega)
    obtain ⟨b, o, spot⟩ := a
    have hspot : spot = none := by simpa [Addr.add] using World.cell?_spot y0
    subst hspot
    rw [Addr.add_lit] at x0 x1 x2
    exact ⟨b, o, ty, tm, q, vl, d, rfl, by simpa using x0, by simpa [Nat.add_assoc] using x1, by simpa [Nat.add_assoc] using x2, a1, a2, a3, a4⟩
end Go.Proofs.YtlinpkmfjkcoiaaDoor
