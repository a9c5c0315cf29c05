/- Rows of tokens that are handed in: what lies there, with the weight of their texts. -/
import Derived.Test.YtlpdbondicfnlaaDoorV5
import Derived.Test.YtlpdbondicfnlaaDoorK7
namespace Go.Proofs.YtlpdbondicfnlaaDoor
open Go Go.ChangeShapes Go.WideShapes Go.ChangeAt Go.RowKit Go.Deep
set_option maxHeartbeats 1000000
set_option linter.unusedVariables false
set_option linter.unusedSimpArgs false
theorem weightsAll_mem {H : Type} {P : Program} {e : TypeId} : ∀ {l : List (DataW H)} {d : DataW H}, d ∈ l → ∀ n ∈ d.weights P e, n ∈ DataW.weightsAll P e l
  | x :: r, d, h, n, hn => by
    unfold DataW.weightsAll
    rw [List.mem_append]
    rcases List.mem_cons.1 h with rfl | h
    · exact .inl hn
    · exact .inr (weightsAll_mem h n hn)
set_option maxRecDepth 100000 in
/-- the cells of a token that is handed in -/
theorem tok_cells {H : Type} {enc : TypeId × Value → H} {w : World} {sp : Nat → Bool} {base : Nat} {held : Bool} {fuel : Nat} {cs : List Value} {d : DataW H} {p : List MemPlace} (h : DataW.trod enc Tryd.prog w base sp held fuel 28 cs = some (d, p)) (hs : ∀ n ∈ d.weights Tryd.prog 28, n ≤ reachBytes) :
    ∃ (k : Int) (s : ByteArray) (a : Int), cs[0]? = some (.int .i64 k) ∧ cs[1]? = some (.string s) ∧ cs[2]? = some (.int .i64 a) ∧ s.size ≤ 140737488351232 := by
  obtain ⟨xs, n, _, hx, hlen, hxl, hf⟩ := DataW.trod_struct Tryd.underlying28 h
  have cut : ∀ (j : Nat) (v : Value), (cs.drop j).take 1 = [v] → cs[j]? = some v := by
    intro j v hc
    have := congrArg (·[0]?) hc
    simp only [List.getElem?_take, List.getElem?_drop, List.getElem?_cons_zero] at this
    simpa using this
  have get : ∀ j, j < 3 → ∃ y, xs[j]? = some y := fun j hj => ⟨xs[j]'(by rw [hxl]; exact hj), List.getElem?_eq_getElem _⟩
  obtain ⟨y0, g0⟩ := get 0 (by omega)
  obtain ⟨y1, g1⟩ := get 1 (by omega)
  obtain ⟨y2, g2⟩ := get 2 (by omega)
  have h0 := (hf 0 _ rfl).trans g0
  have h1 := (hf 1 _ rfl).trans g1
  have h2 := (hf 2 _ rfl).trans g2
  obtain ⟨k, e0, _, _⟩ := DataW.trod_int (k := .i64) (by kernel_rfl) h0
  obtain ⟨s, e1, q1, _⟩ := DataW.trod_string (by kernel_rfl) h1
  obtain ⟨a, e2, _, _⟩ := DataW.trod_int (k := .i64) (by kernel_rfl) h2
  have c3 : Tryd.prog.cellsOf 3 = 1 := by kernel_rfl
  have c9 : Tryd.prog.cellsOf 9 = 1 := by kernel_rfl
  replace e0 : (cs.drop 0).take (Tryd.prog.cellsOf 3) = _ := e0
  rw [c3] at e0
  replace e1 : (cs.drop 1).take (Tryd.prog.cellsOf 9) = _ := e1
  rw [c9] at e1
  replace e2 : (cs.drop 2).take (Tryd.prog.cellsOf 3) = _ := e2
  rw [c3] at e2
  refine ⟨k, s, a, cut 0 _ e0, cut 1 _ e1, cut 2 _ e2, ?_⟩
  have hd : d = .agg (xs.map (·.1)) := congrArg Prod.fst hx
  have hy : y1.1 = .lit (.string s.data.toList) := congrArg Prod.fst q1
  have hre : reachBytes = 140737488351232 := by decide
  have hw : ∀ n ∈ y1.1.weights Tryd.prog 9, n ≤ reachBytes := fun n hn => hs n (by
    rw [hd]
    unfold DataW.weights
    rw [Tryd.underlying28]
    simp only
    exact DataW.weights_mem_each (j := 1) (t := 9) (d := y1.1) rfl (by rw [List.getElem?_map, g1]; rfl) n hn)
  have := hw s.data.toList.length (by rw [hy]; unfold DataW.weights; exact List.mem_cons_self)
  rw [hre] at this
  have hz : s.data.toList.length = s.size := by simp
  omega
set_option maxRecDepth 100000 in
theorem open_toks {H : Type} {enc : TypeId × Value → H} {w : World} {held : Bool} {v : Value} {d : DataW H} {ps : List MemPlace} {r : Reach} {b0 : Nat} (hv : Value.okWide Tryd.prog w r b0 23 v)
    (h : DataW.Trod enc Tryd.prog w 0 (fun _ => true) held 23 v d ps) (hk : ∀ n ∈ d.weights Tryd.prog 23, n ≤ reachBytes) : ∃ p len cap, v = .slice p len cap ∧ len ≤ maxLen ∧ ToksIn w p len := by
  obtain ⟨p, len, cap, rfl⟩ := okWide_slice Tryd.underlying23 hv
  obtain ⟨fuel, hf⟩ := h
  simp only [Value.cells] at hf
  refine ⟨p, len, cap, rfl, ?_⟩
  rcases open_slice Tryd.underlying23 hf with ⟨h0, _⟩ | ⟨a, l, c, m, n, D, Pl, h0, _, hl, hm, hmm, hx, hi⟩
  · simp only [List.cons.injEq, Value.slice.injEq, and_true] at h0
    obtain ⟨rfl, rfl, rfl⟩ := h0
    exact ⟨Nat.zero_le _, fun i hi => absurd hi (Nat.not_lt_zero _)⟩
  · simp only [List.cons.injEq, Value.slice.injEq, and_true] at h0
    obtain ⟨rfl, rfl, rfl⟩ := h0
    simp only [if_true] at hmm
    have hd := congrArg Prod.fst hx
    simp only at hd
    have hwt : ∀ i, i < len → ∀ n ∈ (D i).weights Tryd.prog 28, n ≤ reachBytes := fun i him n hn => hk n (by
      rw [hd]
      unfold DataW.weights
      rw [Tryd.underlying23]
      exact List.mem_cons_of_mem _ (List.mem_append_left _ (weightsAll_mem (List.mem_map.2 ⟨i, List.mem_range.2 him, rfl⟩) n hn)))
    refine ⟨Nat.le_trans hl hm, fun i him => ?_⟩
    have him' : i < m := by omega
    obtain ⟨cs', hc, ht⟩ := hi i him'
    obtain ⟨_, hcl, hat⟩ := World.cells?_some hc
    have hc3 : Tryd.prog.cellsOf 28 = 3 := by kernel_rfl
    rw [hc3] at hat
    obtain ⟨k, s, ta, g0, g1, g2, hs⟩ := tok_cells ht (hwt i him)
    have x0 := (hat 0 (by omega)).trans g0
    have x1 := (hat 1 (by omega)).trans g1
    have x2 := (hat 2 (by omega)).trans g2
    obtain ⟨cs0, hc0, ht0⟩ := hi 0 (by omega)
    obtain ⟨_, _, hat0⟩ := World.cells?_some hc0
    obtain ⟨_, _, _, g00, _, _, _⟩ := tok_cells ht0 (hwt 0 (by omega))
    have y0 := (hat0 0 (by rw [hc3]; omega)).trans g00
    obtain ⟨b, o, spot⟩ := a
    have hspot : spot = none := by simpa [Addr.add] using World.cell?_spot y0
    subst hspot
    refine ⟨b, o, k, s, ta, rfl, hs, ?_, ?_, ?_⟩
    · simpa [Addr.add_lit, hc3] using x0
    · simpa [Addr.add_lit, hc3] using x1
    · simpa [Addr.add_lit, hc3] using x2
end Go.Proofs.YtlpdbondicfnlaaDoor
