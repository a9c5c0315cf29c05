/- Rows that are handed in: numbers, bytes, rows of bytes: what lies there. Rows of rows of bytes that are handed in. An event that is handed in: what reads as one. Rows of events that are handed in. -/
import Derived.Test.YtlinpkmfjkcoiaaDoorN2
import Derived.Test.YtlinpkmfjkcoiaaDoorH4
import Derived.Deep.Slices
import Derived.Deep.Matrix
import Derived.SizedLaws
import Derived.Lib.SmallJoins
namespace Go.Proofs.YtlinpkmfjkcoiaaDoor
open Go Go.ChangeShapes Go.WideShapes Go.ChangeAt Go.RowKit Go.Deep
set_option maxHeartbeats 1000000
set_option linter.unusedVariables false
set_option linter.unusedSimpArgs false
/-- a row of numbers lies there -/
def Nums (w : World) (p : Option Addr) (len : Nat) : Prop := ∀ i, i < len → ∃ (b o : Nat) (n : Int), p = some ⟨b, o, none⟩ ∧ I64 n ∧ w.cell? ⟨b, o + i, none⟩ = some (.int .i64 n)
theorem Nums.below {w w' : World} {p : Option Addr} {n : Nat} (h : Nums w p n) (hb : Below w.heap.size w w') : Nums w' p n := by
  intro i hi
  obtain ⟨b, o, x, e, h6, c⟩ := h i hi
  exact ⟨b, o, x, e, h6, (hb.cell (p := ⟨b, o + i, none⟩) (lt_of_cell c)).trans c⟩
/-- a row of rows of bytes lies there -/
def Raws (w : World) (p : Option Addr) (len : Nat) : Prop := ∀ i, i < len → ∃ (b o : Nat) (q : Option Addr) (d : Nat) (l : List UInt8), p = some ⟨b, o, none⟩ ∧ w.cell? ⟨b, o + i, none⟩ = some (.slice q l.length d) ∧ In w q l ∧ l.length ≤ 140737488351232 ∧ l.length ≤ d ∧ d ≤ maxLen
theorem Raws.below {w w' : World} {p : Option Addr} {n : Nat} (h : Raws w p n) (hb : Below w.heap.size w w') : Raws w' p n := by
  intro i hi
  obtain ⟨b, o, q, d, l, e, c, h1, h2⟩ := h i hi
  exact ⟨b, o, q, d, l, e, (hb.cell (p := ⟨b, o + i, none⟩) (lt_of_cell c)).trans c, h1.below hb, h2⟩
theorem u8_of_wf {a : Int} (h : (Lit.int .u8 a).wf = true) : 0 ≤ a ∧ a ≤ 255 := by
  have hmin : IntKind.min .u8 = 0 := by decide
  have hmax : IntKind.max .u8 = 255 := by decide
  simp only [Lit.wf, hmin, hmax, Bool.and_eq_true, decide_eq_true_eq] at h
  exact h
set_option maxRecDepth 100000 in
theorem open_nums {H : Type} {enc : TypeId × Value → H} {w : World} {held : Bool} {v : Value} {d : DataW H} {ps : List MemPlace} {r : Reach} {b0 : Nat} (hv : Value.okWide Tryd.prog w r b0 46 v)
    (h : DataW.Trod enc Tryd.prog w 0 (fun _ => true) held 46 v d ps) : ∃ p len cap, v = .slice p len cap ∧ len ≤ maxLen ∧ Nums w p len := by
  obtain ⟨p, len, cap, rfl⟩ := okWide_slice Tryd.underlying46 hv
  obtain ⟨fuel, hf⟩ := h
  simp only [Value.cells] at hf
  refine ⟨p, len, cap, rfl, ?_⟩
  rcases open_ints Tryd.underlying46 (k := .i64) (by kernel_rfl) (by kernel_rfl) hf with ⟨h0, _⟩ | ⟨a, l, c, ss, h0, _, hl, hm, hmm, _, hi, hw⟩
  · simp only [List.cons.injEq, Value.slice.injEq, and_true] at h0
    obtain ⟨rfl, rfl, rfl⟩ := h0
    exact ⟨Nat.zero_le _, fun i hi => absurd hi (Nat.not_lt_zero _)⟩
  · simp only [List.cons.injEq, Value.slice.injEq, and_true] at h0
    obtain ⟨rfl, rfl, rfl⟩ := h0
    refine ⟨Nat.le_trans hl hm, fun i him => ?_⟩
    have his : i < ss.length := by rw [hmm]; simp; omega
    have x0 := hi i his
    have y0 := hi 0 (by omega)
    obtain ⟨b, o, spot⟩ := a
    have hspot : spot = none := by simpa [Addr.add] using World.cell?_spot y0
    subst hspot
    refine ⟨b, o, _, rfl, i64_of_wf (hw _ ?_), by rw [Addr.add_lit] at x0; exact x0⟩
    rw [List.getD_eq_getElem?_getD, List.getElem?_eq_getElem his]
    exact List.getElem_mem his
/-- bytes out of their numbers -/
def bytesOf (zs : List Int) : List UInt8 := zs.map fun z => UInt8.ofNat z.toNat
theorem bytesOf_at {zs : List Int} (hw : ∀ n ∈ zs, (Lit.int .u8 n).wf = true) {i : Nat} (h : i < zs.length) : (((bytesOf zs)[i]'(by simpa [bytesOf] using h)).toNat : Int) = zs.getD i 0 := by
  have h1 := u8_of_wf (hw zs[i] (List.getElem_mem h))
  unfold bytesOf
  rw [List.getElem_map, ofNat_small (by omega), List.getD_eq_getElem?_getD, List.getElem?_eq_getElem h]
  simp only [Option.getD_some]
  omega
/-- a row of bytes, opened from its cells -/
theorem in_of {w : World} {a : Option Addr} {len C : Nat} {zs : List Int} (hl : len ≤ C) (hz : zs.length = C) (hw : ∀ n ∈ zs, (Lit.int .u8 n).wf = true) (hn : a = none → C = 0) (hc : ∀ a', a = some a' → ∀ c, c < C → w.cell? (a'.add c) = some (.int .u8 (zs.getD c 0))) :
    ∃ l : List UInt8, l.length = len ∧ In w a l := by
  refine ⟨bytesOf (zs.take len), by simp [bytesOf]; omega, fun i hi => ?_⟩
  have hil : i < len := by simp [bytesOf] at hi; omega
  cases a with
  | none => have := hn rfl; omega
  | some a' =>
    have y0 := hc a' rfl 0 (by omega)
    have x0 := hc a' rfl i (by omega)
    obtain ⟨b, o, spot⟩ := a'
    have hspot : spot = none := by simpa [Addr.add] using World.cell?_spot y0
    subst hspot
    refine ⟨b, o, rfl, ?_⟩
    rw [Addr.add_lit] at x0
    rw [x0, bytesOf_at (fun n hn => hw n (List.mem_of_mem_take hn)) (by simp; omega)]
    rw [List.getD_eq_getElem?_getD, List.getD_eq_getElem?_getD, List.getElem?_take, if_pos hil]
set_option maxRecDepth 100000 in
theorem open_bytes {H : Type} {enc : TypeId × Value → H} {w : World} {held : Bool} {v : Value} {d : DataW H} {ps : List MemPlace} {r : Reach} {b0 : Nat} (hv : Value.okWide Tryd.prog w r b0 25 v)
    (h : DataW.Trod enc Tryd.prog w 0 (fun _ => true) held 25 v d ps) (hs : ∀ n ∈ d.weights Tryd.prog 25, n ≤ reachBytes) : ∃ (p : Option Addr) (l : List UInt8) (cap : Nat), v = .slice p l.length cap ∧ l.length ≤ cap ∧ cap ≤ maxLen ∧ In w p l ∧ l.length ≤ 140737488351232 ∧ (p = none → cap = 0) := by
  obtain ⟨p, len, cap, rfl⟩ := okWide_slice Tryd.underlying25 hv
  obtain ⟨fuel, hf⟩ := h
  simp only [Value.cells] at hf
  rcases open_ints Tryd.underlying25 (k := .u8) (by kernel_rfl) (by kernel_rfl) hf with ⟨h0, _⟩ | ⟨a, l, c, ss, h0, _, hl, hm, hmm, hx, hi, hw⟩
  · simp only [List.cons.injEq, Value.slice.injEq, and_true] at h0
    obtain ⟨rfl, rfl, rfl⟩ := h0
    exact ⟨none, [], 0, rfl, by simp, Nat.zero_le _, fun i hi => absurd hi (Nat.not_lt_zero _), by simp, fun _ => rfl⟩
  · simp only [List.cons.injEq, Value.slice.injEq, and_true] at h0
    obtain ⟨rfl, rfl, rfl⟩ := h0
    simp only [if_true] at hmm
    obtain ⟨l', e, hin⟩ := in_of (w := w) (a := some a) (len := len) (C := cap) hl hmm hw (fun h => by cases h) (fun a' ha c hc => by cases ha; exact hi c (by omega))
    have hd := congrArg Prod.fst hx
    simp only at hd
    have hb : cap ≤ reachBytes := by
      have := hs ((((lits IntKind.u8 (ss.take len)) : List (DataW H)).length + ((lits IntKind.u8 (ss.drop len)) : List (DataW H)).length) * Tryd.prog.bytesOf 5) (by
        rw [hd]
        unfold DataW.weights
        rw [Tryd.underlying25]
        exact List.mem_cons_self ..)
      have h1 : Tryd.prog.bytesOf 5 = 1 := by kernel_rfl
      rw [h1] at this
      simp [lits, hmm] at this
      omega
    have hre : reachBytes = 140737488351232 := by decide
    subst e
    exact ⟨some a, l', cap, rfl, hl, hm, hin, by omega, fun h => by cases h⟩
end Go.Proofs.YtlinpkmfjkcoiaaDoor
namespace Go.Proofs.YtlinpkmfjkcoiaaDoor
open Go Go.ChangeShapes Go.WideShapes Go.ChangeAt Go.RowKit Go.Deep
set_option maxHeartbeats 1000000
set_option linter.unusedVariables false
set_option linter.unusedSimpArgs false
theorem weightsAll_mem {H : Type} {P : Program} {e : TypeId} : ∀ {l : List (DataW H)} {d : DataW H}, d ∈ l → ∀ n ∈ d.weights P e, n ∈ DataW.weightsAll P e l
  | x :: l, d, h, n, hn => by
    unfold DataW.weightsAll
    rw [List.mem_append]
    rcases List.mem_cons.1 h with rfl | h
    · exact .inl hn
    · exact .inr (weightsAll_mem h n hn)
set_option maxRecDepth 100000 in
theorem open_raws {H : Type} {enc : TypeId × Value → H} {w : World} {held : Bool} {v : Value} {d : DataW H} {ps : List MemPlace} {r : Reach} {b0 : Nat} (hv : Value.okWide Tryd.prog w r b0 47 v)
    (h : DataW.Trod enc Tryd.prog w 0 (fun _ => true) held 47 v d ps) (hs : ∀ n ∈ d.weights Tryd.prog 47, n ≤ reachBytes) : ∃ p len cap, v = .slice p len cap ∧ len ≤ maxLen ∧ Raws w p len := by
  obtain ⟨p, len, cap, rfl⟩ := okWide_slice Tryd.underlying47 hv
  obtain ⟨fuel, hf⟩ := h
  simp only [Value.cells] at hf
  refine ⟨p, len, cap, rfl, ?_⟩
  rcases open_int_rows Tryd.underlying47 Tryd.underlying25 (k := .u8) (by kernel_rfl) (by kernel_rfl) (by kernel_rfl) hf with ⟨h0, _⟩ | ⟨a, l, c, A, L, C, Z, h0, _, hl, hm, hx, hi⟩
  · simp only [List.cons.injEq, Value.slice.injEq, and_true] at h0
    obtain ⟨rfl, rfl, rfl⟩ := h0
    exact ⟨Nat.zero_le _, fun i hi => absurd hi (Nat.not_lt_zero _)⟩
  · simp only [List.cons.injEq, Value.slice.injEq, and_true] at h0
    obtain ⟨rfl, rfl, rfl⟩ := h0
    refine ⟨Nat.le_trans hl hm, fun i him => ?_⟩
    obtain ⟨x0, hL, hC, hZ, hw, hn, hc⟩ := hi i (by omega)
    obtain ⟨y0, _⟩ := hi 0 (by omega)
    obtain ⟨b, o, spot⟩ := a
    have hspot : spot = none := by simpa [Addr.add] using World.cell?_spot y0
    subst hspot
    obtain ⟨l', e, hin⟩ := in_of (w := w) (a := A i) (len := L i) (C := C i) hL hZ hw hn (fun a' ha c' hc' => (hc a' ha).2 c' hc')
    have hd := congrArg Prod.fst hx
    simp only at hd
    have hre : reachBytes = 140737488351232 := by decide
    have hb : L i ≤ 140737488351232 := by
      cases hA : A i with
      | none => have := hn hA; omega
      | some a' =>
        have h1 : Tryd.prog.bytesOf 5 = 1 := by kernel_rfl
        have hmem : (intRow .u8 (A i) (L i) (Z i) : DataW H) ∈ (List.range len).map fun r => intRow .u8 (A r) (L r) (Z r) := List.mem_map.2 ⟨i, List.mem_range.2 him, rfl⟩
        have hwt : C i ∈ (intRow .u8 (A i) (L i) (Z i) : DataW H).weights Tryd.prog 25 := by
          rw [hA]
          unfold intRow
          simp only
          unfold DataW.weights
          rw [Tryd.underlying25]
          simp only [h1]
          refine List.mem_cons.2 (.inl ?_)
          simp [lits]
          omega
        have := hs (C i) (by
          rw [hd]
          unfold DataW.weights
          rw [Tryd.underlying47]
          exact List.mem_cons_of_mem _ (List.mem_append_left _ (weightsAll_mem hmem _ hwt)))
        omega
    refine ⟨b, o, A i, C i, l', rfl, ?_, hin, by omega, by omega, hC⟩
    rw [Addr.add_lit] at x0
    rw [e]
    exact x0
end Go.Proofs.YtlinpkmfjkcoiaaDoor
namespace Go.Proofs.YtlinpkmfjkcoiaaDoor
open Go Go.ChangeShapes Go.WideShapes Go.ChangeAt Go.RowKit Go.Deep
set_option maxHeartbeats 1000000
set_option linter.unusedVariables false
set_option linter.unusedSimpArgs false
set_option maxRecDepth 100000 in
theorem value_cells {H : Type} {enc : TypeId × Value → H} {w : World} {base : Nat} {sp : Nat → Bool} {held : Bool} {fuel : Nat} {cs : List Value} {x : DataW H × List MemPlace}
    (h : DataW.trod enc Tryd.prog w base sp held fuel 96 cs = some x) :
    ∃ v : V4, I64 v.n ∧ cs[0]? = some (.int .i64 v.k) ∧ cs[1]? = some (.int .i64 v.n) ∧ cs[2]? = some (.string v.s) ∧ cs[3]? = some (.bool v.b) := by
  obtain ⟨xs, m, _, _, hlen, hxl, hf⟩ := DataW.trod_struct Tryd.underlying96 h
  have cut : ∀ (j : Nat) (v : Value), (cs.drop j).take 1 = [v] → cs[j]? = some v := by
    intro j v hc
    have := congrArg (·[0]?) hc
    simp only [List.getElem?_take, List.getElem?_drop, List.getElem?_cons_zero] at this
    simpa using this
  have get : ∀ j, j < 4 → ∃ y, xs[j]? = some y := fun j hj => ⟨xs[j]'(by rw [hxl]; exact hj), List.getElem?_eq_getElem _⟩
  obtain ⟨y0, g0⟩ := get 0 (by omega)
  obtain ⟨y1, g1⟩ := get 1 (by omega)
  obtain ⟨y2, g2⟩ := get 2 (by omega)
  obtain ⟨y3, g3⟩ := get 3 (by omega)
  have h0 := (hf 0 _ rfl).trans g0
  have h1 := (hf 1 _ rfl).trans g1
  have h2 := (hf 2 _ rfl).trans g2
  have h3 := (hf 3 _ rfl).trans g3
  obtain ⟨k, e0, _, _⟩ := DataW.trod_int (k := .i64) (by kernel_rfl) h0
  obtain ⟨n, e1, _, w1⟩ := DataW.trod_int (k := .i64) (by kernel_rfl) h1
  obtain ⟨s, e2, _, _⟩ := DataW.trod_string (by kernel_rfl) h2
  obtain ⟨b, e3, _⟩ := DataW.trod_bool (by kernel_rfl) h3
  have c3 : Tryd.prog.cellsOf 3 = 1 := by kernel_rfl
  have c2 : Tryd.prog.cellsOf 2 = 1 := by kernel_rfl
  have c9 : Tryd.prog.cellsOf 9 = 1 := by kernel_rfl
  have c4 : Tryd.prog.cellsOf 4 = 1 := by kernel_rfl
  replace e0 : (cs.drop 0).take (Tryd.prog.cellsOf 3) = _ := e0
  rw [c3] at e0
  replace e1 : (cs.drop 1).take (Tryd.prog.cellsOf 2) = _ := e1
  rw [c2] at e1
  replace e2 : (cs.drop 2).take (Tryd.prog.cellsOf 9) = _ := e2
  rw [c9] at e2
  replace e3 : (cs.drop 3).take (Tryd.prog.cellsOf 4) = _ := e3
  rw [c4] at e3
  exact ⟨⟨k, n, s, b⟩, i64_of_wf w1, cut 0 _ e0, cut 1 _ e1, cut 2 _ e2, cut 3 _ e3⟩
set_option maxRecDepth 100000 in
theorem values_of {H : Type} {enc : TypeId × Value → H} {w : World} {held : Bool} {fuel : Nat} {v : Value} {x : DataW H × List MemPlace} (hf : DataW.trod enc Tryd.prog w 0 (fun _ => true) held fuel 22 [v] = some x) :
    ∃ (p : Option Addr) (vl : List V4) (cap : Nat), v = .slice p vl.length cap ∧ vl.length ≤ maxLen ∧ ValRow w p vl ∧ ∀ u ∈ vl, In4 u := by
  rcases open_slice Tryd.underlying22 hf with ⟨h0, _⟩ | ⟨a, l, c, m, n, D, Pl, h0, _, hl, hm, hmm, _, hi⟩
  · simp only [List.cons.injEq, and_true] at h0
    exact ⟨none, [], 0, h0, Nat.zero_le _, fun i hi => absurd hi (Nat.not_lt_zero _), by simp⟩
  · simp only [List.cons.injEq, and_true] at h0
    have hc4 : Tryd.prog.cellsOf 96 = 4 := by kernel_rfl
    simp only [if_true] at hmm
    have each : ∀ i, i < l → ∃ u : V4, I64 u.n ∧ w.cell? (a.add (i * 4)) = some (.int .i64 u.k) ∧ w.cell? (a.add (i * 4 + 1)) = some (.int .i64 u.n) ∧ w.cell? (a.add (i * 4 + 2)) = some (.string u.s) ∧ w.cell? (a.add (i * 4 + 3)) = some (.bool u.b) := by
      intro i him
      obtain ⟨cs', hc, ht⟩ := hi i (by omega)
      obtain ⟨_, hcl, hat⟩ := World.cells?_some hc
      rw [hc4] at hat
      obtain ⟨u, hn, g0, g1, g2, g3⟩ := value_cells ht
      have x0 := (hat 0 (by omega)).trans g0
      have x1 := (hat 1 (by omega)).trans g1
      have x2 := (hat 2 (by omega)).trans g2
      have x3 := (hat 3 (by omega)).trans g3
      obtain ⟨cs0, hc0, ht0⟩ := hi 0 (by omega)
      obtain ⟨_, _, hat0⟩ := World.cells?_some hc0
      obtain ⟨_, _, g00, _, _, _⟩ := value_cells ht0
      have y0 := (hat0 0 (by rw [hc4]; omega)).trans g00
      obtain ⟨b, o, spot⟩ := a
      have hspot : spot = none := by simpa [Addr.add] using World.cell?_spot y0
      subst hspot
      have ha : ∀ j, ((⟨b, o, none⟩ : Addr).add (i * 4)).add j = (⟨b, o, none⟩ : Addr).add (i * 4 + j) := by
        intro j
        rw [Addr.add_lit, Addr.add_lit, Addr.add_lit, Nat.add_assoc]
      rw [ha] at x0 x1 x2 x3
      exact ⟨u, hn, x0, x1, x2, x3⟩
    have hex : ∃ f : Nat → V4, ∀ i, i < l → I64 (f i).n ∧ w.cell? (a.add (i * 4)) = some (.int .i64 (f i).k) ∧ w.cell? (a.add (i * 4 + 1)) = some (.int .i64 (f i).n) ∧ w.cell? (a.add (i * 4 + 2)) = some (.string (f i).s) ∧ w.cell? (a.add (i * 4 + 3)) = some (.bool (f i).b) := by
      have : ∀ i, ∃ u : V4, i < l → I64 u.n ∧ w.cell? (a.add (i * 4)) = some (.int .i64 u.k) ∧ w.cell? (a.add (i * 4 + 1)) = some (.int .i64 u.n) ∧ w.cell? (a.add (i * 4 + 2)) = some (.string u.s) ∧ w.cell? (a.add (i * 4 + 3)) = some (.bool u.b) := fun i => by
        by_cases h : i < l
        · obtain ⟨u, hu⟩ := each i h
          exact ⟨u, fun _ => hu⟩
        · exact ⟨⟨0, 0, ⟨#[]⟩, false⟩, fun h' => absurd h' h⟩
      exact ⟨fun i => Classical.choose (this i), fun i => Classical.choose_spec (this i)⟩
    obtain ⟨f, hfx⟩ := hex
    refine ⟨some a, (List.range l).map f, c, by simpa using h0, by simp; omega, fun i him => ?_, fun u hu => ?_⟩
    · have hil : i < l := by simpa using him
      obtain ⟨_, x0, x1, x2, x3⟩ := hfx i hil
      obtain ⟨_, y0, _⟩ := hfx 0 (by omega)
      obtain ⟨b, o, spot⟩ := a
      have hspot : spot = none := by simpa [Addr.add] using World.cell?_spot y0
      subst hspot
      rw [Addr.add_lit] at x0 x1 x2 x3
      refine ⟨b, o, rfl, ?_, ?_, ?_, ?_⟩
      · simpa using x0
      · simpa [Nat.add_assoc] using x1
      · simpa [Nat.add_assoc] using x2
      · simpa [Nat.add_assoc] using x3
    · obtain ⟨i, hi2, rfl⟩ := List.mem_map.1 hu
      exact (hfx i (List.mem_range.1 hi2)).1
set_option maxRecDepth 100000 in
theorem open_event {H : Type} {enc : TypeId × Value → H} {w : World} {held : Bool} {v : Value} {d : DataW H} {ps : List MemPlace} {r : Reach} {b0 : Nat} (hv : Value.okWide Tryd.prog w r b0 24 v)
    (h : DataW.Trod enc Tryd.prog w 0 (fun _ => true) held 24 v d ps) : ∃ (ty : ByteArray) (tm : Int) (p : Option Addr) (vl : List V4) (cap : Nat), v = .agg #[.string ty, .int .i64 tm, .slice p vl.length cap] ∧ I64 tm ∧ vl.length ≤ maxLen ∧ ValRow w p vl ∧ ∀ u ∈ vl, In4 u := by
  obtain ⟨v0, v1, v2, y0, y1, y2, m, rfl, _, _, h0, h1, h2⟩ := Go.Joins.open_agg3 Tryd.underlying24 (by kernel_rfl) (by kernel_rfl) hv h
  obtain ⟨s, e0, rfl, hs⟩ := DataW.trod_string (by kernel_rfl) h0
  obtain ⟨n, e1, rfl, w1⟩ := DataW.trod_int (k := .i64) (by kernel_rfl) h1
  obtain ⟨p, vl, cap, rfl, hl, hr, h4⟩ := values_of h2
  obtain rfl : v0 = _ := by simpa using e0
  obtain rfl : v1 = _ := by simpa using e1
  exact ⟨s, n, p, vl, cap, rfl, i64_of_wf w1, hl, hr, h4⟩
theorem bulk_pos {H : Type} (d : DataW H) : 1 ≤ Rows.uptoBulk d := by
  cases d with
  | lit l => cases l <;> simp [Rows.uptoBulk]
  | nil => simp [Rows.uptoBulk]
  | ptr d => simp [Rows.uptoBulk]
  | slice elems spare => simp [Rows.uptoBulk]
  | agg parts => simp [Rows.uptoBulk]
  | iface t d => simp [Rows.uptoBulk]
  | map entries => simp [Rows.uptoBulk]
  | held h => simp [Rows.uptoBulk]
theorem bulk_len {H : Type} (l : List (DataW H)) : l.length ≤ Rows.uptoBulkAll l := by
  induction l with
  | nil => simp [Rows.uptoBulkAll]
  | cons x r ih => have := bulk_pos x; simp only [Rows.uptoBulkAll, List.length_cons]; omega
/-- of bytes that are of bulk so small there are no more -/
theorem bytes_small {H : Type} {enc : TypeId × Value → H} {w : World} {held : Bool} {p : Option Addr} {n c B : Nat} {d : DataW H} {ps : List MemPlace} (h : DataW.Trod enc Tryd.prog w 0 (fun _ => true) held 25 (.slice p n c) d ps) (hb : Rows.uptoBulk d ≤ B) : n ≤ B := by
  obtain ⟨fuel, hf⟩ := h
  simp only [Value.cells] at hf
  rcases open_ints Tryd.underlying25 (k := .u8) (by kernel_rfl) (by kernel_rfl) hf with ⟨h0, _⟩ | ⟨a, l, cc, ss, h0, _, hl, hm, hmm, hx, hi, hw⟩
  · simp only [List.cons.injEq, Value.slice.injEq, and_true] at h0
    omega
  · simp only [List.cons.injEq, Value.slice.injEq, and_true] at h0
    obtain ⟨_, rfl, rfl⟩ := h0
    simp only [if_true] at hmm
    have hd := congrArg Prod.fst hx
    simp only at hd
    rw [hd] at hb
    simp only [Rows.uptoBulk] at hb
    have h1 := bulk_len ((lits IntKind.u8 (ss.take n)) : List (DataW H))
    simp only [lits, List.length_map, List.length_take] at h1
    simp only [lits] at hb
    omega
end Go.Proofs.YtlinpkmfjkcoiaaDoor
namespace Go.Proofs.YtlinpkmfjkcoiaaDoor
open Go Go.ChangeShapes Go.WideShapes Go.ChangeAt Go.RowKit Go.Deep
set_option maxHeartbeats 1000000
set_option linter.unusedVariables false
set_option linter.unusedSimpArgs false
/-- events lie there -/
def Evts (w : World) (p : Option Addr) (n : Nat) : Prop := ∀ i, i < n → ∃ (b o : Nat) (ty : ByteArray) (tm : Int) (q : Option Addr) (vl : List V4) (d : Nat), p = some ⟨b, o, none⟩ ∧ w.cell? ⟨b, o + i * 3, none⟩ = some (.string ty) ∧ w.cell? ⟨b, o + i * 3 + 1, none⟩ = some (.int .i64 tm) ∧ w.cell? ⟨b, o + i * 3 + 2, none⟩ = some (.slice q vl.length d) ∧
  I64 tm ∧ vl.length * 40 ≤ 140737488351232 ∧ ValRow w q vl ∧ ∀ u ∈ vl, In4 u
theorem Evts.below {w w' : World} {p : Option Addr} {n : Nat} (h : Evts w p n) (hb : Below w.heap.size w w') : Evts w' p n := by
  intro i hi
  obtain ⟨b, o, ty, tm, q, vl, d, e, c0, c1, c2, h1, h2, h3, h4⟩ := h i hi
  have hl := lt_of_cell c0
  exact ⟨b, o, ty, tm, q, vl, d, e, (hb.cell (p := ⟨b, o + i * 3, none⟩) hl).trans c0, (hb.cell (p := ⟨b, o + i * 3 + 1, none⟩) hl).trans c1, (hb.cell (p := ⟨b, o + i * 3 + 2, none⟩) hl).trans c2, h1, h2, h3.below hb, h4⟩
set_option maxRecDepth 100000 in
theorem values_w {H : Type} {enc : TypeId × Value → H} {w : World} {held : Bool} {fuel : Nat} {v : Value} {x : DataW H × List MemPlace} (hf : DataW.trod enc Tryd.prog w 0 (fun _ => true) held fuel 22 [v] = some x) (hs : ∀ n ∈ x.1.weights Tryd.prog 22, n ≤ reachBytes) :
    ∃ (p : Option Addr) (vl : List V4) (cap : Nat), v = .slice p vl.length cap ∧ vl.length * 40 ≤ 140737488351232 ∧ ValRow w p vl ∧ ∀ u ∈ vl, In4 u := by
  obtain ⟨p, vl, cap, rfl, hl, hr, h4⟩ := values_of hf
  refine ⟨p, vl, cap, rfl, ?_, hr, h4⟩
  rcases open_slice Tryd.underlying22 hf with ⟨h0, _⟩ | ⟨a, l, c, m, n, D, Pl, h0, _, hlc, hm, hmm, hx, hi⟩
  · simp only [List.cons.injEq, Value.slice.injEq, and_true] at h0
    omega
  · simp only [List.cons.injEq, Value.slice.injEq, and_true] at h0
    obtain ⟨_, h1, _⟩ := h0
    have hre : reachBytes = 140737488351232 := by decide
    have hby : Tryd.prog.bytesOf 96 = 40 := by kernel_rfl
    have hd := congrArg Prod.fst hx
    simp only at hd
    rw [hd] at hs
    have := hs ((l + (m - l)) * 40) (by
      unfold DataW.weights
      rw [Tryd.underlying22]
      simp only [hby]
      refine List.mem_cons.2 (.inl ?_)
      simp)
    rw [hre] at this
    have h2 : vl.length * 40 ≤ (l + (m - l)) * 40 := Nat.mul_le_mul_right _ (by omega)
    omega
set_option maxRecDepth 100000 in
theorem event_cells {H : Type} {enc : TypeId × Value → H} {w : World} {held : Bool} {fuel : Nat} {cs : List Value} {x : DataW H × List MemPlace} (h : DataW.trod enc Tryd.prog w 0 (fun _ => true) held fuel 24 cs = some x) (hs : ∀ n ∈ x.1.weights Tryd.prog 24, n ≤ reachBytes) :
    ∃ (ty : ByteArray) (tm : Int) (q : Option Addr) (vl : List V4) (d : Nat), cs[0]? = some (.string ty) ∧ cs[1]? = some (.int .i64 tm) ∧ cs[2]? = some (.slice q vl.length d) ∧ I64 tm ∧ vl.length * 40 ≤ 140737488351232 ∧ ValRow w q vl ∧ ∀ u ∈ vl, In4 u := by
  obtain ⟨xs, m, _, hx, hlen, hxl, hf⟩ := DataW.trod_struct Tryd.underlying24 h
  have cut : ∀ (j : Nat) (v : Value), (cs.drop j).take 1 = [v] → cs[j]? = some v := by
    intro j v hc
    have := congrArg (·[0]?) hc
    simp only [List.getElem?_take, List.getElem?_drop, List.getElem?_cons_zero] at this
    simpa using this
  have get : ∀ j, j < 3 → ∃ y, xs[j]? = some y := fun j hj => ⟨xs[j]'(by rw [hxl]; exact hj), List.getElem?_eq_getElem _⟩
  obtain ⟨y0, g0⟩ := get 0 (by omega)
  obtain ⟨y1, g1⟩ := get 1 (by omega)
  obtain ⟨y2, g2⟩ := get 2 (by omega)
  have h0 := (hf 0 _ rfl).trans g0
  have h1 := (hf 1 _ rfl).trans g1
  have h2 := (hf 2 _ rfl).trans g2
  obtain ⟨s, e0, _, _⟩ := DataW.trod_string (by kernel_rfl) h0
  obtain ⟨n, e1, _, w1⟩ := DataW.trod_int (k := .i64) (by kernel_rfl) h1
  have c2 : Tryd.prog.cellsOf 2 = 1 := by kernel_rfl
  have c9 : Tryd.prog.cellsOf 9 = 1 := by kernel_rfl
  have c22 : Tryd.prog.cellsOf 22 = 1 := by kernel_rfl
  replace e0 : (cs.drop 0).take (Tryd.prog.cellsOf 9) = _ := e0
  rw [c9] at e0
  replace e1 : (cs.drop 1).take (Tryd.prog.cellsOf 2) = _ := e1
  rw [c2] at e1
  replace h2 : DataW.trod enc Tryd.prog w 0 (fun _ => true) held m 22 ((cs.drop 2).take (Tryd.prog.cellsOf 22)) = some y2 := h2
  rw [c22] at h2
  have hw2 : ∀ n ∈ y2.1.weights Tryd.prog 22, n ≤ reachBytes := fun n hn => hs n (by
    rw [hx]
    simp only
    unfold DataW.weights
    rw [Tryd.underlying24]
    simp only
    exact DataW.weights_mem_each (j := 2) (t := 22) (d := y2.1) rfl (by rw [List.getElem?_map, g2]; rfl) n hn)
  have hv : ∃ v, (cs.drop 2).take 1 = [v] := by
    rcases open_slice Tryd.underlying22 h2 with ⟨h0, _⟩ | ⟨a, l, c, m, n, D, Pl, h0, _⟩
    · exact ⟨_, h0⟩
    · exact ⟨_, h0⟩
  obtain ⟨v, hv⟩ := hv
  rw [hv] at h2
  obtain ⟨q, vl, d, rfl, a1, a2, a3⟩ := values_w h2 hw2
  exact ⟨s, n, q, vl, d, cut 0 _ e0, cut 1 _ e1, cut 2 _ hv, i64_of_wf w1, a1, a2, a3⟩
set_option maxRecDepth 100000 in
theorem open_events {H : Type} {enc : TypeId × Value → H} {w : World} {held : Bool} {v : Value} {d : DataW H} {ps : List MemPlace} {r : Reach} {b0 : Nat} (hv : Value.okWide Tryd.prog w r b0 38 v)
    (h : DataW.Trod enc Tryd.prog w 0 (fun _ => true) held 38 v d ps) (hs : ∀ n ∈ d.weights Tryd.prog 38, n ≤ reachBytes) : ∃ p len cap, v = .slice p len cap ∧ len ≤ maxLen ∧ Evts w p len := by
  obtain ⟨p, len, cap, rfl⟩ := okWide_slice Tryd.underlying38 hv
  obtain ⟨fuel, hf⟩ := h
  simp only [Value.cells] at hf
  refine ⟨p, len, cap, rfl, ?_⟩
  rcases open_slice Tryd.underlying38 hf with ⟨h0, _⟩ | ⟨a, l, c, m, n, D, Pl, h0, _, hl, hm, hmm, hx, hi⟩
  · simp only [List.cons.injEq, Value.slice.injEq, and_true] at h0
    obtain ⟨rfl, rfl, rfl⟩ := h0
    exact ⟨Nat.zero_le _, fun i hi => absurd hi (Nat.not_lt_zero _)⟩
  · simp only [List.cons.injEq, Value.slice.injEq, and_true] at h0
    obtain ⟨rfl, rfl, rfl⟩ := h0
    have hc3 : Tryd.prog.cellsOf 24 = 3 := by kernel_rfl
    simp only [if_true] at hmm
    have hd := congrArg Prod.fst hx
    simp only at hd
    have hwt : ∀ i, i < len → ∀ n ∈ (D i).weights Tryd.prog 24, n ≤ reachBytes := fun i him n hn => hs n (by
      rw [hd]
      unfold DataW.weights
      rw [Tryd.underlying38]
      exact List.mem_cons_of_mem _ (List.mem_append_left _ (weightsAll_mem (List.mem_map.2 ⟨i, List.mem_range.2 him, rfl⟩) n hn)))
    have each : ∀ i, i < len → ∃ (ty : ByteArray) (tm : Int) (q : Option Addr) (vl : List V4) (d : Nat), w.cell? (a.add (i * 3)) = some (.string ty) ∧ w.cell? (a.add (i * 3 + 1)) = some (.int .i64 tm) ∧ w.cell? (a.add (i * 3 + 2)) = some (.slice q vl.length d) ∧ I64 tm ∧ vl.length * 40 ≤ 140737488351232 ∧ ValRow w q vl ∧ ∀ u ∈ vl, In4 u := by
      intro i him
      obtain ⟨cs', hc, ht⟩ := hi i (by omega)
      obtain ⟨_, hcl, hat⟩ := World.cells?_some hc
      rw [hc3] at hat
      obtain ⟨ty, tm, q, vl, d, g0, g1, g2, a1, a2, a3, a4⟩ := event_cells ht (hwt i him)
      have x0 := (hat 0 (by omega)).trans g0
      have x1 := (hat 1 (by omega)).trans g1
      have x2 := (hat 2 (by omega)).trans g2
      obtain ⟨cs0, hc0, ht0⟩ := hi 0 (by omega)
      obtain ⟨_, _, hat0⟩ := World.cells?_some hc0
      obtain ⟨_, _, _, _, _, g00, _⟩ := event_cells ht0 (hwt 0 (by omega))
      have y0 := (hat0 0 (by rw [hc3]; omega)).trans g00
      obtain ⟨b, o, spot⟩ := a
      have hspot : spot = none := by simpa [Addr.add] using World.cell?_spot y0
      subst hspot
      have ha : ∀ j, ((⟨b, o, none⟩ : Addr).add (i * 3)).add j = (⟨b, o, none⟩ : Addr).add (i * 3 + j) := by
        intro j
        rw [Addr.add_lit, Addr.add_lit, Addr.add_lit, Nat.add_assoc]
      rw [ha] at x0 x1 x2
      exact ⟨ty, tm, q, vl, d, x0, x1, x2, a1, a2, a3, a4⟩
    refine ⟨Nat.le_trans hl hm, fun i him => ?_⟩
    obtain ⟨ty, tm, q, vl, d, x0, x1, x2, a1, a2, a3, a4⟩ := each i him
    obtain ⟨_, _, _, _, _, y0, _⟩ := each 0 (by omega)
    obtain ⟨b, o, spot⟩ := a
    have hspot : spot = none := by simpa [Addr.add] using World.cell?_spot y0
    subst hspot
    rw [Addr.add_lit] at x0 x1 x2
    exact ⟨b, o, ty, tm, q, vl, d, rfl, by simpa using x0, by simpa [Nat.add_assoc] using x1, by simpa [Nat.add_assoc] using x2, a1, a2, a3, a4⟩
end Go.Proofs.YtlinpkmfjkcoiaaDoor
