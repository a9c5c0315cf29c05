/- Rows of values, of texts and of numbers that are handed in: what lies there, and how long each string is at most. -/
import Derived.Test.YtcjibjiojgikjaaDoorV2
import Derived.Deep.Slices
import Derived.SliceStrings
namespace Go.Proofs.YtcjibjiojgikjaaDoor
open Go Go.ChangeShapes Go.WideShapes Go.ChangeAt Go.RowKit Go.Deep
set_option maxHeartbeats 400000
set_option linter.unusedVariables false
/-- a row of values lies there -/
def ValsB (w : World) (p : Option Addr) (len : Nat) : Prop := ∀ i, i < len → ∃ (b o : Nat) (k n : Int) (s : ByteArray) (t : Bool), p = some ⟨b, o, none⟩ ∧ I64 n ∧ s.size ≤ maxLen ∧
  w.cell? ⟨b, o + i * 4, none⟩ = some (.int .i64 k) ∧ w.cell? ⟨b, o + i * 4 + 1, none⟩ = some (.int .i64 n) ∧ w.cell? ⟨b, o + i * 4 + 2, none⟩ = some (.string s) ∧ w.cell? ⟨b, o + i * 4 + 3, none⟩ = some (.bool t)
/-- a row of texts lies there -/
def TextsB (w : World) (p : Option Addr) (len : Nat) : Prop := ∀ i, i < len → ∃ (b o : Nat) (s : ByteArray), p = some ⟨b, o, none⟩ ∧ s.size ≤ maxLen ∧ w.cell? ⟨b, o + i, none⟩ = some (.string s)
set_option maxRecDepth 100000 in
theorem value_cellsB {H : Type} {enc : TypeId × Value → H} {w : World} {base : Nat} {sp : Nat → Bool} {held : Bool} {fuel : Nat} {cs : List Value} {x : DataW H × List MemPlace}
    (h : DataW.trod enc Tryd.prog w base sp held fuel 29 cs = some x) :
    ∃ (k n : Int) (s : ByteArray) (t : Bool), I64 n ∧ s.size ≤ maxLen ∧ cs[0]? = some (.int .i64 k) ∧ cs[1]? = some (.int .i64 n) ∧ cs[2]? = some (.string s) ∧ cs[3]? = some (.bool t) := by
  obtain ⟨xs, m, _, _, hlen, hxl, hf⟩ := DataW.trod_struct Tryd.underlying29 h
  have hc4 : Tryd.prog.cellsOf 29 = 4 := by kernel_rfl
  have cut : ∀ (j : Nat) (v : Value), (cs.drop j).take 1 = [v] → cs[j]? = some v := by
    intro j v hc
    have := congrArg (·[0]?) hc
    simp only [List.getElem?_take, List.getElem?_drop, List.getElem?_cons_zero] at this
    simpa using this
  have get : ∀ j, j < 4 → ∃ y, xs[j]? = some y := fun j hj => ⟨xs[j]'(by rw [hxl]; exact hj), List.getElem?_eq_getElem _⟩
  obtain ⟨y0, g0⟩ := get 0 (by omega)
  obtain ⟨y1, g1⟩ := get 1 (by omega)
  obtain ⟨y2, g2⟩ := get 2 (by omega)
  obtain ⟨y3, g3⟩ := get 3 (by omega)
  have h0 := (hf 0 _ rfl).trans g0
  have h1 := (hf 1 _ rfl).trans g1
  have h2 := (hf 2 _ rfl).trans g2
  have h3 := (hf 3 _ rfl).trans g3
  obtain ⟨k, e0, _, _⟩ := DataW.trod_int (k := .i64) (by kernel_rfl) h0
  obtain ⟨n, e1, _, w1⟩ := DataW.trod_int (k := .i64) (by kernel_rfl) h1
  obtain ⟨s, e2, _, w2⟩ := DataW.trod_string (by kernel_rfl) h2
  obtain ⟨b, e3, _⟩ := DataW.trod_bool (by kernel_rfl) h3
  have c3 : Tryd.prog.cellsOf 3 = 1 := by kernel_rfl
  have c2 : Tryd.prog.cellsOf 2 = 1 := by kernel_rfl
  have c9 : Tryd.prog.cellsOf 9 = 1 := by kernel_rfl
  have c4 : Tryd.prog.cellsOf 4 = 1 := by kernel_rfl
  replace e0 : (cs.drop 0).take (Tryd.prog.cellsOf 3) = _ := e0
  rw [c3] at e0
  replace e1 : (cs.drop 1).take (Tryd.prog.cellsOf 2) = _ := e1
  rw [c2] at e1
  replace e2 : (cs.drop 2).take (Tryd.prog.cellsOf 9) = _ := e2
  rw [c9] at e2
  replace e3 : (cs.drop 3).take (Tryd.prog.cellsOf 4) = _ := e3
  rw [c4] at e3
  exact ⟨k, n, s, b, i64_of_wf w1, w2, cut 0 _ e0, cut 1 _ e1, cut 2 _ e2, cut 3 _ e3⟩
set_option maxRecDepth 100000 in
theorem open_valuesB {H : Type} {enc : TypeId × Value → H} {w : World} {held : Bool} {v : Value} {d : DataW H} {ps : List MemPlace} {r : Reach} {b0 : Nat} (hv : Value.okWide Tryd.prog w r b0 22 v)
    (h : DataW.Trod enc Tryd.prog w 0 (fun _ => true) held 22 v d ps) : ∃ p len cap, v = .slice p len cap ∧ len ≤ maxLen ∧ ValsB w p len := by
  obtain ⟨p, len, cap, rfl⟩ := okWide_slice Tryd.underlying22 hv
  obtain ⟨fuel, hf⟩ := h
  simp only [Value.cells] at hf
  refine ⟨p, len, cap, rfl, ?_⟩
  rcases open_slice Tryd.underlying22 hf with ⟨h0, _⟩ | ⟨a, l, c, m, n, D, Pl, h0, _, hl, hm, hmm, _, hi⟩
  · simp only [List.cons.injEq, Value.slice.injEq, and_true] at h0
    obtain ⟨rfl, rfl, rfl⟩ := h0
    exact ⟨Nat.zero_le _, fun i hi => absurd hi (Nat.not_lt_zero _)⟩
  · simp only [List.cons.injEq, Value.slice.injEq, and_true] at h0
    obtain ⟨rfl, rfl, rfl⟩ := h0
    refine ⟨Nat.le_trans hl hm, fun i him => ?_⟩
    have him' : i < m := by rw [hmm]; simp; omega
    obtain ⟨cs', hc, ht⟩ := hi i him'
    obtain ⟨_, hcl, hat⟩ := World.cells?_some hc
    have hc4 : Tryd.prog.cellsOf 29 = 4 := by kernel_rfl
    rw [hc4] at hat
    obtain ⟨k, nn, s, t, hn, hz, g0, g1, g2, g3⟩ := value_cellsB ht
    have x0 := (hat 0 (by omega)).trans g0
    have x1 := (hat 1 (by omega)).trans g1
    have x2 := (hat 2 (by omega)).trans g2
    have x3 := (hat 3 (by omega)).trans g3
    obtain ⟨cs0, hc0, ht0⟩ := hi 0 (by omega)
    obtain ⟨_, _, hat0⟩ := World.cells?_some hc0
    obtain ⟨_, _, _, _, _, _, g00, _, _, _⟩ := value_cellsB ht0
    have y0 := (hat0 0 (by rw [hc4]; omega)).trans g00
    obtain ⟨b, o, spot⟩ := a
    have hspot : spot = none := by simpa [Addr.add] using World.cell?_spot y0
    subst hspot
    refine ⟨b, o, k, nn, s, t, rfl, hn, hz, ?_, ?_, ?_, ?_⟩
    · simpa [Addr.add_lit, hc4] using x0
    · simpa [Addr.add_lit, hc4] using x1
    · simpa [Addr.add_lit, hc4] using x2
    · simpa [Addr.add_lit, hc4] using x3
set_option maxRecDepth 100000 in
theorem open_textsB {H : Type} {enc : TypeId × Value → H} {w : World} {held : Bool} {v : Value} {d : DataW H} {ps : List MemPlace} {r : Reach} {b0 : Nat} (hv : Value.okWide Tryd.prog w r b0 23 v)
    (h : DataW.Trod enc Tryd.prog w 0 (fun _ => true) held 23 v d ps) : ∃ p len cap, v = .slice p len cap ∧ len ≤ maxLen ∧ TextsB w p len := by
  obtain ⟨p, len, cap, rfl⟩ := okWide_slice Tryd.underlying23 hv
  obtain ⟨fuel, hf⟩ := h
  simp only [Value.cells] at hf
  refine ⟨p, len, cap, rfl, ?_⟩
  rcases open_strings Tryd.underlying23 (by kernel_rfl) (by kernel_rfl) hf with ⟨h0, _⟩ | ⟨a, l, c, ss, h0, _, hl, hm, hmm, _, hi, hss⟩
  · simp only [List.cons.injEq, Value.slice.injEq, and_true] at h0
    obtain ⟨rfl, rfl, rfl⟩ := h0
    exact ⟨Nat.zero_le _, fun i hi => absurd hi (Nat.not_lt_zero _)⟩
  · simp only [List.cons.injEq, Value.slice.injEq, and_true] at h0
    obtain ⟨rfl, rfl, rfl⟩ := h0
    refine ⟨Nat.le_trans hl hm, fun i him => ?_⟩
    have x0 := hi i (by rw [hmm]; simp; omega)
    have y0 := hi 0 (by rw [hmm]; simp; omega)
    obtain ⟨b, o, spot⟩ := a
    have hspot : spot = none := by simpa [Addr.add] using World.cell?_spot y0
    subst hspot
    have his : i < ss.length := by rw [hmm]; simp; omega
    have hmem : ss.getD i ByteArray.empty ∈ ss := by
      simp [List.getD_eq_getElem?_getD, List.getElem?_eq_getElem his]
    exact ⟨b, o, _, rfl, hss _ hmem, by rw [Addr.add_lit] at x0; exact x0⟩
/-- a row of numbers lies there -/
def Nums (w : World) (p : Option Addr) (len : Nat) : Prop := ∀ i, i < len → ∃ (b o : Nat) (n : Int), p = some ⟨b, o, none⟩ ∧ w.cell? ⟨b, o + i, none⟩ = some (.int .i64 n)
set_option maxRecDepth 100000 in
theorem open_nums {H : Type} {enc : TypeId × Value → H} {w : World} {held : Bool} {v : Value} {d : DataW H} {ps : List MemPlace} {r : Reach} {b0 : Nat} (hv : Value.okWide Tryd.prog w r b0 48 v)
    (h : DataW.Trod enc Tryd.prog w 0 (fun _ => true) held 48 v d ps) : ∃ p len cap, v = .slice p len cap ∧ len ≤ maxLen ∧ Nums w p len := by
  obtain ⟨p, len, cap, rfl⟩ := okWide_slice Tryd.underlying48 hv
  obtain ⟨fuel, hf⟩ := h
  simp only [Value.cells] at hf
  refine ⟨p, len, cap, rfl, ?_⟩
  rcases open_ints Tryd.underlying48 (k := .i64) (by kernel_rfl) (by kernel_rfl) hf with ⟨h0, _⟩ | ⟨a, l, c, ss, h0, _, hl, hm, hmm, _, hi, _⟩
  · simp only [List.cons.injEq, Value.slice.injEq, and_true] at h0
    obtain ⟨rfl, rfl, rfl⟩ := h0
    exact ⟨Nat.zero_le _, fun i hi => absurd hi (Nat.not_lt_zero _)⟩
  · simp only [List.cons.injEq, Value.slice.injEq, and_true] at h0
    obtain ⟨rfl, rfl, rfl⟩ := h0
    refine ⟨Nat.le_trans hl hm, fun i him => ?_⟩
    have x0 := hi i (by rw [hmm]; simp; omega)
    have y0 := hi 0 (by rw [hmm]; simp; omega)
    obtain ⟨b, o, spot⟩ := a
    have hspot : spot = none := by simpa [Addr.add] using World.cell?_spot y0
    subst hspot
    exact ⟨b, o, _, rfl, by rw [Addr.add_lit] at x0; exact x0⟩
end Go.Proofs.YtcjibjiojgikjaaDoor
