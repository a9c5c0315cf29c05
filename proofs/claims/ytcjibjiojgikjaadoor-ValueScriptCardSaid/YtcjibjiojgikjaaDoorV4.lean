/- A row of steps that is handed in: what lies there. -/
import Derived.Test.YtcjibjiojgikjaaDoorV3
namespace Go.Proofs.YtcjibjiojgikjaaDoor
open Go Go.ChangeShapes Go.WideShapes Go.ChangeAt Go.RowKit Go.Deep
set_option maxHeartbeats 400000
set_option linter.unusedVariables false
/-- the cells of a step, by number -/
def StepCells (get : Nat → Option Value) (kind k1 n1 : Int) (s1 : ByteArray) (b1 : Bool) (k2 n2 : Int) (s2 : ByteArray) (b2 : Bool) (text : ByteArray) (N : Int) : Prop :=
  get 0 = some (.int .i64 kind) ∧ get 1 = some (.int .i64 k1) ∧ get 2 = some (.int .i64 n1) ∧ get 3 = some (.string s1) ∧ get 4 = some (.bool b1) ∧ get 5 = some (.int .i64 k2) ∧ get 6 = some (.int .i64 n2) ∧ get 7 = some (.string s2) ∧ get 8 = some (.bool b2) ∧ get 9 = some (.string text) ∧ get 10 = some (.int .i64 N)
/-- a row of steps lies there -/
def Steps (w : World) (p : Option Addr) (len : Nat) : Prop := ∀ i, i < len → ∃ (b o : Nat) (kind k1 n1 : Int) (s1 : ByteArray) (b1 : Bool) (k2 n2 : Int) (s2 : ByteArray) (b2 : Bool) (text : ByteArray) (N : Int), p = some ⟨b, o, none⟩ ∧ I64 n1 ∧ s1.size ≤ maxLen ∧
  StepCells (fun j => w.cell? ⟨b, o + i * 11 + j, none⟩) kind k1 n1 s1 b1 k2 n2 s2 b2 text N
set_option maxRecDepth 100000 in
theorem step_cells {H : Type} {enc : TypeId × Value → H} {w : World} {base : Nat} {sp : Nat → Bool} {held : Bool} {fuel : Nat} {cs : List Value} {x : DataW H × List MemPlace}
    (h : DataW.trod enc Tryd.prog w base sp held fuel 54 cs = some x) :
    ∃ (kind k1 n1 : Int) (s1 : ByteArray) (b1 : Bool) (k2 n2 : Int) (s2 : ByteArray) (b2 : Bool) (text : ByteArray) (N : Int), I64 n1 ∧ s1.size ≤ maxLen ∧ StepCells (fun j => cs[j]?) kind k1 n1 s1 b1 k2 n2 s2 b2 text N := by
  obtain ⟨xs, m, _, _, hlen, hxl, hf⟩ := DataW.trod_struct Tryd.underlying54 h
  have get : ∀ j, j < 5 → ∃ y, xs[j]? = some y := fun j hj => ⟨xs[j]'(by rw [hxl]; exact hj), List.getElem?_eq_getElem _⟩
  obtain ⟨y0, g0⟩ := get 0 (by omega)
  obtain ⟨y1, g1⟩ := get 1 (by omega)
  obtain ⟨y2, g2⟩ := get 2 (by omega)
  obtain ⟨y3, g3⟩ := get 3 (by omega)
  obtain ⟨y4, g4⟩ := get 4 (by omega)
  have h0 := (hf 0 _ rfl).trans g0
  have h1 := (hf 1 _ rfl).trans g1
  have h2 := (hf 2 _ rfl).trans g2
  have h3 := (hf 3 _ rfl).trans g3
  have h4 := (hf 4 _ rfl).trans g4
  obtain ⟨kind, e0, _, _⟩ := DataW.trod_int (k := .i64) (by kernel_rfl) h0
  obtain ⟨k1, n1, s1, b1, hn, hz, a0, a1, a2, a3⟩ := value_cellsB h1
  obtain ⟨k2, n2, s2, b2, _, _, c0, c1, c2, c3⟩ := value_cellsB h2
  obtain ⟨text, e3, _, _⟩ := DataW.trod_string (by kernel_rfl) h3
  obtain ⟨N, e4, _, _⟩ := DataW.trod_int (k := .i64) (by kernel_rfl) h4
  have z3 : Tryd.prog.cellsOf 3 = 1 := by kernel_rfl
  have z9 : Tryd.prog.cellsOf 9 = 1 := by kernel_rfl
  have z29 : Tryd.prog.cellsOf 29 = 4 := by kernel_rfl
  have cut : ∀ (o n j : Nat) (v : Value), j < n → ((cs.drop o).take n)[j]? = some v → cs[o + j]? = some v := by
    intro o n j v hj hc
    simpa [List.getElem?_take, List.getElem?_drop, hj] using hc
  have one : ∀ (o : Nat) (v : Value), (cs.drop o).take 1 = [v] → cs[o]? = some v := fun o v hc => cut o 1 0 v (by omega) (by rw [hc]; rfl)
  replace e0 : (cs.drop 0).take (Tryd.prog.cellsOf 3) = _ := e0
  rw [z3] at e0
  replace e3 : (cs.drop 9).take (Tryd.prog.cellsOf 9) = _ := e3
  rw [z9] at e3
  replace e4 : (cs.drop 10).take (Tryd.prog.cellsOf 3) = _ := e4
  rw [z3] at e4
  replace a0 : ((cs.drop 1).take (Tryd.prog.cellsOf 29))[0]? = _ := a0
  replace a1 : ((cs.drop 1).take (Tryd.prog.cellsOf 29))[1]? = _ := a1
  replace a2 : ((cs.drop 1).take (Tryd.prog.cellsOf 29))[2]? = _ := a2
  replace a3 : ((cs.drop 1).take (Tryd.prog.cellsOf 29))[3]? = _ := a3
  replace c0 : ((cs.drop 5).take (Tryd.prog.cellsOf 29))[0]? = _ := c0
  replace c1 : ((cs.drop 5).take (Tryd.prog.cellsOf 29))[1]? = _ := c1
  replace c2 : ((cs.drop 5).take (Tryd.prog.cellsOf 29))[2]? = _ := c2
  replace c3 : ((cs.drop 5).take (Tryd.prog.cellsOf 29))[3]? = _ := c3
  rw [z29] at a0 a1 a2 a3 c0 c1 c2 c3
  exact ⟨kind, k1, n1, s1, b1, k2, n2, s2, b2, text, N, hn, hz, one 0 _ e0, cut 1 4 0 _ (by omega) a0, cut 1 4 1 _ (by omega) a1, cut 1 4 2 _ (by omega) a2, cut 1 4 3 _ (by omega) a3,
    cut 5 4 0 _ (by omega) c0, cut 5 4 1 _ (by omega) c1, cut 5 4 2 _ (by omega) c2, cut 5 4 3 _ (by omega) c3, one 9 _ e3, one 10 _ e4⟩
set_option maxRecDepth 100000 in
theorem open_steps {H : Type} {enc : TypeId × Value → H} {w : World} {held : Bool} {v : Value} {d : DataW H} {ps : List MemPlace} {r : Reach} {b0 : Nat} (hv : Value.okWide Tryd.prog w r b0 50 v)
    (h : DataW.Trod enc Tryd.prog w 0 (fun _ => true) held 50 v d ps) : ∃ p len cap, v = .slice p len cap ∧ len ≤ maxLen ∧ Steps w p len := by
  obtain ⟨p, len, cap, rfl⟩ := okWide_slice Tryd.underlying50 hv
  obtain ⟨fuel, hf⟩ := h
  simp only [Value.cells] at hf
  refine ⟨p, len, cap, rfl, ?_⟩
  rcases open_slice Tryd.underlying50 hf with ⟨h0, _⟩ | ⟨a, l, c, m, n, D, Pl, h0, _, hl, hm, hmm, _, hi⟩
  · simp only [List.cons.injEq, Value.slice.injEq, and_true] at h0
    obtain ⟨rfl, rfl, rfl⟩ := h0
    exact ⟨Nat.zero_le _, fun i hi => absurd hi (Nat.not_lt_zero _)⟩
  · simp only [List.cons.injEq, Value.slice.injEq, and_true] at h0
    obtain ⟨rfl, rfl, rfl⟩ := h0
    refine ⟨Nat.le_trans hl hm, fun i him => ?_⟩
    have him' : i < m := by rw [hmm]; simp; omega
    obtain ⟨cs', hc, ht⟩ := hi i him'
    obtain ⟨_, hcl, hat⟩ := World.cells?_some hc
    have hc4 : Tryd.prog.cellsOf 54 = 11 := by kernel_rfl
    rw [hc4] at hat
    obtain ⟨kind, k1, n1, s1, b1, k2, n2, s2, b2, text, N, hn, hz, g0, g1, g2, g3, g4, g5, g6, g7, g8, g9, g10⟩ := step_cells ht
    have at' : ∀ j, j < 11 → ∀ v, cs'[j]? = some v → w.cell? (a.add (i * 11) |>.add j) = some v := fun j hj v hv => (hat j hj).trans hv
    obtain ⟨cs0, hc0, ht0⟩ := hi 0 (by omega)
    obtain ⟨_, _, hat0⟩ := World.cells?_some hc0
    obtain ⟨_, _, _, _, _, _, _, _, _, _, _, _, _, g00, _⟩ := step_cells ht0
    have y0 := (hat0 0 (by rw [hc4]; omega)).trans g00
    obtain ⟨b, o, spot⟩ := a
    have hspot : spot = none := by simpa [Addr.add] using World.cell?_spot y0
    subst hspot
    have at2 : ∀ j, j < 11 → ∀ v, cs'[j]? = some v → w.cell? ⟨b, o + i * 11 + j, none⟩ = some v := fun j hj v hv => by
      have := at' j hj v hv
      rw [Addr.add_lit, Addr.add_lit] at this
      exact this
    exact ⟨b, o, kind, k1, n1, s1, b1, k2, n2, s2, b2, text, N, rfl, hn, hz, at2 0 (by omega) _ g0, at2 1 (by omega) _ g1, at2 2 (by omega) _ g2, at2 3 (by omega) _ g3, at2 4 (by omega) _ g4, at2 5 (by omega) _ g5, at2 6 (by omega) _ g6, at2 7 (by omega) _ g7, at2 8 (by omega) _ g8, at2 9 (by omega) _ g9, at2 10 (by omega) _ g10⟩
end Go.Proofs.YtcjibjiojgikjaaDoor
