/- Rows of calls that are handed in: what lies there, and how much of it there is. The walk of the law TokenAll. -/
import Derived.Test.YtdafnkfnaknoiaaDoorV5
import Derived.Test.YtdafnkfnaknoiaaDoorT25
namespace Go.Proofs.YtdafnkfnaknoiaaDoor
open Go Go.ChangeShapes Go.WideShapes Go.ChangeAt Go.RowKit Go.Deep
set_option maxHeartbeats 1000000
set_option linter.unusedVariables false
set_option linter.unusedSimpArgs false
theorem bulk_pos {H : Type} (d : DataW H) : 1 ≤ Rows.uptoBulk d := by
  cases d with
  | lit l => cases l <;> simp [Rows.uptoBulk]
  | nil => simp [Rows.uptoBulk]
  | ptr d => simp [Rows.uptoBulk]
  | slice elems spare => simp [Rows.uptoBulk]
  | agg parts => simp [Rows.uptoBulk]
  | iface t d => simp [Rows.uptoBulk]
  | map entries => simp [Rows.uptoBulk]
  | held h => simp [Rows.uptoBulk]
theorem bulk_mem {H : Type} : ∀ {l : List (DataW H)} {d : DataW H}, d ∈ l → Rows.uptoBulk d ≤ Rows.uptoBulkAll l
  | x :: r, d, h => by
    simp only [Rows.uptoBulkAll]
    rcases List.mem_cons.1 h with rfl | h
    · omega
    · have := bulk_mem h
      omega
theorem bulk_len {H : Type} : ∀ l : List (DataW H), l.length ≤ Rows.uptoBulkAll l
  | [] => by simp
  | x :: r => by
    have := bulk_len r
    have := bulk_pos x
    simp only [Rows.uptoBulkAll, List.length_cons]
    omega
theorem cut_at {cs : List Value} (j : Nat) (v : Value) (hc : (cs.drop j).take 1 = [v]) : cs[j]? = some v := by
  have := congrArg (·[0]?) hc
  simp only [List.getElem?_take, List.getElem?_drop, List.getElem?_cons_zero] at this
  simpa using this
set_option maxRecDepth 100000 in
/-- the cells of a token that is handed in -/
theorem tok_cellsB {H : Type} {enc : TypeId × Value → H} {w : World} {sp : Nat → Bool} {base : Nat} {held : Bool} {fuel : Nat} {cs : List Value} {d : DataW H} {p : List MemPlace} (h : DataW.trod enc Tryd.prog w base sp held fuel 28 cs = some (d, p)) :
    ∃ t : Tok3, cs[0]? = some (.int .i64 t.1) ∧ cs[1]? = some (.string t.2.1) ∧ cs[2]? = some (.int .i64 t.2.2) ∧ t.2.1.size ≤ Rows.uptoBulk d := by
  obtain ⟨xs, n, _, hx, hlen, hxl, hf⟩ := DataW.trod_struct Tryd.underlying28 h
  have get : ∀ j, j < 3 → ∃ y, xs[j]? = some y := fun j hj => ⟨xs[j]'(by rw [hxl]; exact hj), List.getElem?_eq_getElem _⟩
  obtain ⟨y0, g0⟩ := get 0 (by omega)
  obtain ⟨y1, g1⟩ := get 1 (by omega)
  obtain ⟨y2, g2⟩ := get 2 (by omega)
  have h0 := (hf 0 _ rfl).trans g0
  have h1 := (hf 1 _ rfl).trans g1
  have h2 := (hf 2 _ rfl).trans g2
  obtain ⟨k, e0, _, _⟩ := DataW.trod_int (k := .i64) (by kernel_rfl) h0
  obtain ⟨s, e1, q1, _⟩ := DataW.trod_string (by kernel_rfl) h1
  obtain ⟨a, e2, _, _⟩ := DataW.trod_int (k := .i64) (by kernel_rfl) h2
  have c3 : Tryd.prog.cellsOf 3 = 1 := by kernel_rfl
  have c9 : Tryd.prog.cellsOf 9 = 1 := by kernel_rfl
  replace e0 : (cs.drop 0).take (Tryd.prog.cellsOf 3) = _ := e0
  rw [c3] at e0
  replace e1 : (cs.drop 1).take (Tryd.prog.cellsOf 9) = _ := e1
  rw [c9] at e1
  replace e2 : (cs.drop 2).take (Tryd.prog.cellsOf 3) = _ := e2
  rw [c3] at e2
  refine ⟨(k, s, a), cut_at 0 _ e0, cut_at 1 _ e1, cut_at 2 _ e2, ?_⟩
  have hd : d = .agg (xs.map (·.1)) := congrArg Prod.fst hx
  have hy : y1.1 = .lit (.string s.data.toList) := congrArg Prod.fst q1
  have hm : y1.1 ∈ xs.map (·.1) := List.mem_map.2 ⟨y1, List.mem_of_getElem? g1, rfl⟩
  have := bulk_mem hm
  rw [hy] at this
  rw [hd]
  simp only [Rows.uptoBulk] at this ⊢
  have hz : s.data.toList.length = s.size := by simp
  simp only [hz] at this
  show s.size ≤ _
  omega
set_option maxRecDepth 100000 in
theorem open_toksB {H : Type} {enc : TypeId × Value → H} {w : World} {held : Bool} {fuel : Nat} {v : Value} {d : DataW H} {ps : List MemPlace}
    (hf : DataW.trod enc Tryd.prog w 0 (fun _ => true) held fuel 23 [v] = some (d, ps)) : ∃ (q : Option Addr) (L : List Tok3) (cap : Nat), v = .slice q L.length cap ∧ TokAt w q L ∧ (q = none → cap = 0 ∧ L = []) ∧ L.length ≤ Rows.uptoBulk d ∧ ∀ t ∈ L, t.2.1.size ≤ Rows.uptoBulk d := by
  rcases open_slice Tryd.underlying23 hf with ⟨h0, _⟩ | ⟨a, len, cap, m, n, D, Pl, h0, _, hl, hm, hmm, hx, hi⟩
  · simp only [List.cons.injEq, and_true] at h0
    exact ⟨none, [], 0, h0, fun i hi => absurd hi (Nat.not_lt_zero _), fun _ => ⟨rfl, rfl⟩, by simp, fun t ht => by cases ht⟩
  · simp only [List.cons.injEq, and_true] at h0
    simp only [if_true] at hmm
    have hd := congrArg Prod.fst hx
    simp only at hd
    have hc3 : Tryd.prog.cellsOf 28 = 3 := by kernel_rfl
    obtain ⟨R, hR⟩ := choose_lt (n := len) (α := Tok3) (p := fun i t => w.cell? (a.add (i * 3)) = some (.int .i64 t.1) ∧ w.cell? ((a.add (i * 3)).add 1) = some (.string t.2.1) ∧ w.cell? ((a.add (i * 3)).add 2) = some (.int .i64 t.2.2) ∧ t.2.1.size ≤ Rows.uptoBulk (D i)) (fun i him => by
      obtain ⟨cs', hc, ht⟩ := hi i (by omega)
      obtain ⟨_, hcl, hat⟩ := World.cells?_some hc
      rw [hc3] at hat
      obtain ⟨t, g0, g1, g2, hs⟩ := tok_cellsB ht
      refine ⟨t, ?_, (hat 1 (by omega)).trans g1, (hat 2 (by omega)).trans g2, hs⟩
      have := (hat 0 (by omega)).trans g0
      simpa [Addr.add] using this)
    have hlen : ((List.range len).map R).length = len := by simp
    have hbi : ∀ i, i < len → Rows.uptoBulk (D i) ≤ Rows.uptoBulk d := fun i him => by
      rw [hd]
      have := bulk_mem (l := (List.range len).map D) (List.mem_map.2 ⟨i, List.mem_range.2 him, rfl⟩)
      simp only [Rows.uptoBulk]
      omega
    refine ⟨some a, (List.range len).map R, cap, by rw [hlen]; exact h0, ?_, (fun e => by cases e), ?_, ?_⟩
    · intro i hi2
      rw [hlen] at hi2
      obtain ⟨x0, x1, x2, _⟩ := hR i hi2
      obtain ⟨y0, _⟩ := hR 0 (by omega)
      obtain ⟨b, o, spot⟩ := a
      have hspot : spot = none := by simpa [Addr.add] using World.cell?_spot y0
      subst hspot
      simp only [Addr.add_lit] at x0 x1 x2
      refine ⟨b, o, rfl, ?_, ?_, ?_⟩
      · simpa using x0
      · simpa using x1
      · simpa using x2
    · rw [hlen, hd]
      have := bulk_len ((List.range len).map D)
      simp only [Rows.uptoBulk, List.length_map, List.length_range] at this ⊢
      omega
    · intro t ht
      obtain ⟨i, hi2, rfl⟩ := List.mem_map.1 ht
      have him := List.mem_range.1 hi2
      exact Nat.le_trans (hR i him).2.2.2 (hbi i him)
/-- calls that are handed in -/
def OpAt (w : World) (p : Option Addr) (len : Nat) : Prop := ∀ i, i < len → ∃ (b o : Nat) (k : Int) (T : ByteArray) (q : Option Addr) (c : Nat) (L : List Tok3), p = some ⟨b, o, none⟩ ∧ w.cell? ⟨b, o + i * 3, none⟩ = some (.int .i64 k) ∧ w.cell? ⟨b, o + i * 3 + 1, none⟩ = some (.string T) ∧ w.cell? ⟨b, o + i * 3 + 2, none⟩ = some (.slice q L.length c) ∧
  T.size ≤ 140737488355328 ∧ TokAt w q L ∧ (q = none → c = 0 ∧ L = []) ∧ L.length ≤ 1048576 ∧ ∀ t ∈ L, t.2.1.size ≤ 140737488355328
set_option maxRecDepth 100000 in
theorem op_cells {H : Type} {enc : TypeId × Value → H} {w : World} {held : Bool} {fuel : Nat} {cs : List Value} {d : DataW H} {p : List MemPlace} (h : DataW.trod enc Tryd.prog w 0 (fun _ => true) held fuel 54 cs = some (d, p)) :
    ∃ (k : Int) (T : ByteArray) (q : Option Addr) (c : Nat) (L : List Tok3), cs[0]? = some (.int .i64 k) ∧ cs[1]? = some (.string T) ∧ cs[2]? = some (.slice q L.length c) ∧ T.size ≤ Rows.uptoBulk d ∧ TokAt w q L ∧ (q = none → c = 0 ∧ L = []) ∧ L.length ≤ Rows.uptoBulk d ∧ ∀ t ∈ L, t.2.1.size ≤ Rows.uptoBulk d := by
  obtain ⟨xs, n, _, hx, hlen, hxl, hf⟩ := DataW.trod_struct Tryd.underlying54 h
  have get : ∀ j, j < 3 → ∃ y, xs[j]? = some y := fun j hj => ⟨xs[j]'(by rw [hxl]; exact hj), List.getElem?_eq_getElem _⟩
  obtain ⟨y0, g0⟩ := get 0 (by omega)
  obtain ⟨y1, g1⟩ := get 1 (by omega)
  obtain ⟨y2, g2⟩ := get 2 (by omega)
  have h0 := (hf 0 _ rfl).trans g0
  have h1 := (hf 1 _ rfl).trans g1
  have h2 := (hf 2 _ rfl).trans g2
  obtain ⟨k, e0, _, _⟩ := DataW.trod_int (k := .i64) (by kernel_rfl) h0
  obtain ⟨s, e1, q1, _⟩ := DataW.trod_string (by kernel_rfl) h1
  have c3 : Tryd.prog.cellsOf 3 = 1 := by kernel_rfl
  have c9 : Tryd.prog.cellsOf 9 = 1 := by kernel_rfl
  have c23 : Tryd.prog.cellsOf 23 = 1 := by kernel_rfl
  have c54 : Tryd.prog.cellsOf 54 = 3 := by kernel_rfl
  replace e0 : (cs.drop 0).take (Tryd.prog.cellsOf 3) = _ := e0
  rw [c3] at e0
  replace e1 : (cs.drop 1).take (Tryd.prog.cellsOf 9) = _ := e1
  rw [c9] at e1
  replace h2 : DataW.trod enc Tryd.prog w 0 (fun _ => true) held n 23 ((cs.drop 2).take (Tryd.prog.cellsOf 23)) = some y2 := h2
  rw [c23] at h2
  have hcl : cs.length = 3 := by rw [hlen]; exact c54
  obtain ⟨v, hv⟩ : ∃ v, cs[2]? = some v := ⟨cs[2]'(by omega), List.getElem?_eq_getElem _⟩
  have hcut : (cs.drop 2).take 1 = [v] := by
    rcases cs with _ | ⟨a, _ | ⟨b, _ | ⟨c, t⟩⟩⟩
    · simp at hcl
    · simp at hcl
    · simp at hcl
    · simp at hv ⊢
      exact hv
  rw [hcut] at h2
  obtain ⟨dd, pp⟩ := y2
  obtain ⟨q, L, c, rfl, t1, t2, t3, t4⟩ := open_toksB h2
  have hd : d = .agg (xs.map (·.1)) := congrArg Prod.fst hx
  have hm1 := bulk_mem (List.mem_map.2 ⟨y1, List.mem_of_getElem? g1, rfl⟩ : y1.1 ∈ xs.map (·.1))
  have hm2 := bulk_mem (List.mem_map.2 ⟨(dd, pp), List.mem_of_getElem? g2, rfl⟩ : dd ∈ xs.map (·.1))
  have hy : y1.1 = .lit (.string s.data.toList) := congrArg Prod.fst q1
  have hbd : Rows.uptoBulk d = Rows.uptoBulkAll (xs.map (·.1)) + 1 := by rw [hd]; rfl
  rw [hy] at hm1
  simp only [Rows.uptoBulk] at hm1
  have hz : s.data.toList.length = s.size := by simp
  exact ⟨k, s, q, c, L, cut_at 0 _ e0, cut_at 1 _ e1, hv, by omega, t1, t2, by omega, fun t ht => Nat.le_trans (t4 t ht) (by omega)⟩
set_option maxRecDepth 100000 in
theorem open_ops {H : Type} {enc : TypeId × Value → H} {w : World} {held : Bool} {v : Value} {d : DataW H} {ps : List MemPlace} {r : Reach} {b0 : Nat} (hv : Value.okWide Tryd.prog w r b0 48 v)
    (h : DataW.Trod enc Tryd.prog w 0 (fun _ => true) held 48 v d ps) (hk : Rows.uptoBulk d ≤ 1048576) : ∃ p len cap, v = .slice p len cap ∧ len ≤ maxLen ∧ OpAt w p len := by
  obtain ⟨p, len, cap, rfl⟩ := okWide_slice Tryd.underlying48 hv
  obtain ⟨fuel, hf⟩ := h
  simp only [Value.cells] at hf
  refine ⟨p, len, cap, rfl, ?_⟩
  rcases open_slice Tryd.underlying48 hf with ⟨h0, _⟩ | ⟨a, l, c, m, n, D, Pl, h0, _, hl, hm, hmm, hx, hi⟩
  · simp only [List.cons.injEq, Value.slice.injEq, and_true] at h0
    obtain ⟨rfl, rfl, rfl⟩ := h0
    exact ⟨Nat.zero_le _, fun i hi => absurd hi (Nat.not_lt_zero _)⟩
  · simp only [List.cons.injEq, Value.slice.injEq, and_true] at h0
    obtain ⟨rfl, rfl, rfl⟩ := h0
    simp only [if_true] at hmm
    have hd := congrArg Prod.fst hx
    simp only at hd
    have hc3 : Tryd.prog.cellsOf 54 = 3 := by kernel_rfl
    refine ⟨Nat.le_trans hl hm, fun i him => ?_⟩
    obtain ⟨cs', hc, ht⟩ := hi i (by omega)
    obtain ⟨_, hcl, hat⟩ := World.cells?_some hc
    rw [hc3] at hat
    obtain ⟨k, T, q, c', L, g0, g1, g2, s1, s2, s3, s4, s5⟩ := op_cells ht
    have hbi : Rows.uptoBulk (D i) ≤ 1048576 := by
      have := bulk_mem (l := (List.range len).map D) (List.mem_map.2 ⟨i, List.mem_range.2 him, rfl⟩)
      rw [hd] at hk
      simp only [Rows.uptoBulk] at hk
      omega
    have x0 := (hat 0 (by omega)).trans g0
    have x1 := (hat 1 (by omega)).trans g1
    have x2 := (hat 2 (by omega)).trans g2
    obtain ⟨cs0, hc0, ht0⟩ := hi 0 (by omega)
    obtain ⟨_, _, hat0⟩ := World.cells?_some hc0
    obtain ⟨_, _, _, _, _, g00, _, _, _, _, _, _, _⟩ := op_cells ht0
    have y0 := (hat0 0 (by rw [hc3]; omega)).trans g00
    obtain ⟨b, o, spot⟩ := a
    have hspot : spot = none := by simpa [Addr.add] using World.cell?_spot y0
    subst hspot
    refine ⟨b, o, k, T, q, c', L, rfl, ?_, ?_, ?_, by omega, s2, s3, by omega, fun t ht => Nat.le_trans (s5 t ht) (by omega)⟩
    · simpa [Addr.add_lit, hc3] using x0
    · simpa [Addr.add_lit, hc3] using x1
    · simpa [Addr.add_lit, hc3] using x2
end Go.Proofs.YtdafnkfnaknoiaaDoor
namespace Go.Proofs.YtdafnkfnaknoiaaDoor
open Go Go.RowKit
set_option maxHeartbeats 4000000
set_option linter.unusedVariables false
set_option linter.unusedSimpArgs false
set_option maxRecDepth 100000 in
theorem all_walk (p : Option Addr) (len cap : Nat) (w : World) (he : Errs w) (hw : Wd w) (hlen : len ≤ maxLen) (hO : OpAt w p len) : Calls Tryd.prog 8 #[.slice p len cap] w fun e w' => e = .returned (.bool true) ∧ Below w.heap.size w w' := by
  have HBG : Hid (Calls Tryd.prog 14 #[] w fun e w' => e = .returned (.bool true) ∧ Below w.heap.size w w') := begun_any w he hw
  have HPL : Hid (∀ wx hb i, i < len → In w wx hb → ∀ b o, p = some ⟨b, o, none⟩ → ∀ k T q c n, w.cell? ⟨b, o + i * 3, none⟩ = some (.int .i64 k) → w.cell? ⟨b, o + i * 3 + 1, none⟩ = some (.string T) → w.cell? ⟨b, o + i * 3 + 2, none⟩ = some (.slice q n c) →
      Calls Tryd.prog 20 #[.pointer (some ⟨hb, 0, none⟩), .agg #[.int .i64 k, .string T, .slice q n c]] wx fun e w' => e = .returned (.bool true) ∧ In w w' hb) := by
    intro wx hb i hi hin b o hp k T q c n c0 c1 c2
    obtain ⟨b', o', k', T', q', c', L, hp', d0, d1, d2, h1, h2, h3, h4, h5⟩ := hO i hi
    rw [hp] at hp'
    cases hp'
    rw [c0] at d0
    rw [c1] at d1
    rw [c2] at d2
    cases d0
    cases d1
    cases d2
    exact plays_any w wx hb k T q c L he hw hin h1 h2 h3 h4 h5
  have HO := Lib.hid hO
  have v1 : (len : Int) ≤ 9223372036854775807 := by unfold maxLen at hlen; omega
  clear he hw hO hlen
  go_enter Tryd.func8, Tryd.ntmps8
  go_wp2_with fail
  refine HBG.out.mono ?_
  rintro e w1 ⟨rfl, hb1⟩
  have HB1 := Lib.hid hb1
  clear hb1
  go_wp2
  obtain ⟨hb, hhb⟩ : ∃ hb, hb = w1.heap.size := ⟨_, rfl⟩
  have hin : In w (w1.alloc (.cells #[.slice none 0 0] 51)) hb := by
    refine ⟨HB1.out.alloc HB1.out.size _, none, 0, [], by rw [hhb]; exact HB1.out.size, ?_, World.ownsRow_nil _ _ _ _⟩
    rw [hhb]
    exact heap_alloc_new w1 _
  have HIN := Lib.hid hin
  rw [← hhb]
  clear hin hhb
  go_loopw [4] (fun iv wr => ∃ i : Nat, iv = .int .i64 i ∧ i ≤ len ∧ In w wr hb) (fun iv _ => len - (intOf iv).toNat)
  case atStart => exact ⟨0, rfl, Nat.zero_le _, HIN.out⟩
  case round =>
    clear HIN
    obtain ⟨i, rfl, hi, hin⟩ := hrel
    have HIN := Lib.hid hin
    by_cases hlt : i < len
    · obtain ⟨b, o, k, T, q, c, L, rfl, d0, d1, d2, _⟩ := HO.out i hlt
      have HC := Lib.hid (HPL.out wr hb i hlt hin b o rfl k T q c L.length d0 d1 d2)
      have hbl := lt_of_cell d0
      have e0 := (hin.blw.cell (p := ⟨b, o + i * 3, none⟩) hbl).trans d0
      have e1 := (hin.blw.cell (p := ⟨b, o + i * 3 + 1, none⟩) hbl).trans d1
      have e2 := (hin.blw.cell (p := ⟨b, o + i * 3 + 2, none⟩) hbl).trans d2
      have v2 : (i : Int) < (len : Int) := by omega
      clear d0 d1 d2 hin hbl
      go_wp2_with (go_at_call 20; refine HC.out.mono ?_; rintro e w3 ⟨rfl, hin3⟩)
      go_roundw
      case rel => exact ⟨i + 1, by go_num, by omega, hin3⟩
      case measure => simp [intOf]; omega
    · have v2 : ¬ (i : Int) < (len : Int) := by omega
      have d2 : decide (i < len) = false := by simp; omega
      clear hin
      go_wp2
      go_ret
      exact ⟨rfl, HIN.out.blw⟩
end Go.Proofs.YtdafnkfnaknoiaaDoor
