/- The laws' own mark and wide: values with marks behind them. The laws' own wide: the walk. The laws' own tight. The laws' own given: what has been filled in. The laws' own given: the walk. The laws' own stands. -/
import Derived.Test.YtlinpkmfjkcoiaaDoorT9
import Derived.Laws.OwnMore
import Derived.Test.YtlinpkmfjkcoiaaDoorT8
import Derived.Test.YtlinpkmfjkcoiaaDoorU3
import Derived.Deep.AppendLies
namespace Go.Proofs.YtlinpkmfjkcoiaaDoor
open Go Go.RowKit
set_option maxHeartbeats 2000000
set_option linter.unusedVariables false
set_option linter.unusedSimpArgs false
theorem mark_any (x : Int) (h0 : -1000000000000000000 ≤ x) (h1 : x ≤ 1000000000000000000) (w : World) : Calls Tryd.prog 55 #[.int .i64 x] w fun e w' => e = .returned (.agg #[.int .i64 1, .int .i64 (77 + x), .string ⟨#[]⟩, .bool false]) ∧ Below w.heap.size w w' := by
  have hb : Below w.heap.size w (w.alloc (.cells #[.int .i64 0, .int .i64 0, .string ⟨#[]⟩, .bool false] 96)) := (Below.refl _ _).alloc (Nat.le_refl _) _
  have F := Four.new w ⟨0, 0, ⟨#[]⟩, false⟩
  obtain ⟨w0, hw0⟩ : ∃ x, x = w.alloc (.cells #[.int .i64 0, .int .i64 0, .string ⟨#[]⟩, .bool false] 96) := ⟨_, rfl⟩
  rw [← hw0] at hb
  replace F : Four w0 w.heap.size ⟨0, 0, ⟨#[]⟩, false⟩ := by rw [hw0]; exact F
  have HW := Lib.hid hw0
  have HB := Lib.hid hb
  obtain ⟨y0, y1, y2, y3, yz0, yz1, yz2, yz3⟩ := F
  obtain ⟨g, hg⟩ : ∃ g, g = w.heap.size := ⟨_, rfl⟩
  rw [← hg] at y0 y1 y2 y3 yz0 yz1 yz2 yz3
  have HG := Lib.hid hg
  clear hw0 hb
  go_enter Tryd.func55, Tryd.ntmps55
  go_upto_region 1 with fail
  rw [← HW.out, ← hg]
  clear hg
  go_wp2
  refine bodyPost_ret (v := .agg #[.int .i64 1, .int .i64 (77 + x), .string ⟨#[]⟩, .bool false]) (by simp [results, Tryd.results55, go_sem, y0, y1, y2, y3]) rfl ?_
  have hg := HG.out
  have q : w.heap.size ≤ g := by omega
  exact ⟨rfl, by repeat (first | exact HB.out | refine Below.setCell ?_ (by assumption) _)⟩
def wideL (vl : List V4) : List V4 := vl ++ (List.range 34).map fun i : Nat => (⟨1, 77 + (i : Int), ⟨#[]⟩, false⟩ : V4)
theorem wide_len (vl : List V4) : (wideL vl).length = vl.length + 34 := by simp [wideL]
theorem wide_front {vl : List V4} {k : Nat} (h : k < vl.length) : (wideL vl)[k]? = some vl[k] := by
  unfold wideL
  rw [List.getElem?_append_left h, List.getElem?_eq_getElem h]
theorem wide_back {vl : List V4} {k : Nat} (h : vl.length ≤ k) (h2 : k < vl.length + 34) : (wideL vl)[k]? = some ⟨1, 77 + ((k : Int) - (vl.length : Int)), ⟨#[]⟩, false⟩ := by
  unfold wideL
  rw [List.getElem?_append_right h, List.getElem?_map, List.getElem?_range (by omega)]
  simp only [Option.map_some]
  congr 2
  omega
theorem cells4_len (vl : List V4) : (cells4 vl).length = vl.length * 4 := by
  induction vl with
  | nil => rfl
  | cons v t ih => rw [cells4_cons]; simp only [List.length_cons, ih]; omega
theorem cells4_get {L : List V4} {k : Nat} {u : V4} (h : L[k]? = some u) : (cells4 L)[k * 4]? = some (.int .i64 u.k) ∧ (cells4 L)[k * 4 + 1]? = some (.int .i64 u.n) ∧ (cells4 L)[k * 4 + 2]? = some (.string u.s) ∧ (cells4 L)[k * 4 + 3]? = some (.bool u.b) := by
  obtain ⟨hk, rfl⟩ := List.getElem?_eq_some_iff.1 h
  exact cells4_at L k hk
theorem own4_frozen {w : World} {B g n c : Nat} {xs : List Value} (h : w.ownsRow B 96 4 (.slice (some ⟨g, 0, none⟩) n c) n xs) (i : Nat) : w.frozen? ⟨g, i, none⟩ = false := by
  rcases h.2 with ⟨h1, _⟩ | ⟨g', cap, cur, h1, _, hb, _⟩
  · cases h1
  · simp only [Value.slice.injEq, Option.some.injEq, Addr.mk.injEq, and_true] at h1
    obtain ⟨rfl, _⟩ := h1
    simp [World.frozen?, hb]
theorem own4_cell {w : World} {B g n c : Nat} {xs : List Value} (h : w.ownsRow B 96 4 (.slice (some ⟨g, 0, none⟩) n c) n xs) {i : Nat} {u : Value} (hi : xs[i]? = some u) : w.cell? ⟨g, i, none⟩ = some u := by
  have := h.cells (g := g) rfl i u hi
  rw [Addr.add_lit] at this
  simpa using this
/-- so many values are filled in -/
structure Filled4 (w wr : World) (G N : Nat) (L : List V4) (k : Nat) (xs : List Value) : Prop where
  own : wr.ownsRow G 96 4 (.slice (some ⟨G, 0, none⟩) N N) N xs
  len : xs.length = N * 4
  blw : Below G w wr
  gl : G < wr.heap.size
  done : ∀ j, j < k * 4 → xs[j]? = (cells4 L)[j]?
theorem Filled4.below {w wr w' : World} {G N : Nat} {L : List V4} {k : Nat} {xs : List Value} (h : Filled4 w wr G N L k xs) (hb : Below wr.heap.size wr w') : Filled4 w w' G N L k xs := by
  have hg : wr.grownBy w' none := ⟨hb.os, hb.tape, hb.output, hb.size, fun i hi _ => hb.block i hi⟩
  exact ⟨World.ownsRow.kept h.own hg (.inr (by simp [Value.ownBlock])), h.len, h.blw.trans (hb.mono (Nat.le_of_lt h.gl)), Nat.lt_of_lt_of_le h.gl hb.size, h.done⟩
theorem Filled4.set {w wr : World} {G N : Nat} {L : List V4} {k j : Nat} {xs : List Value} (h : Filled4 w wr G N L k xs) (hj : k * 4 ≤ j) (u : Value) : Filled4 w (wr.setCell ⟨G, j, none⟩ u) G N L k (xs.set j u) :=
  ⟨(h.own.stored j u).1, by rw [List.length_set]; exact h.len, h.blw.setCell (Nat.le_refl _) _, by have := h.gl; simpa using this, fun i hi => by rw [List.getElem?_set_ne (by omega)]; exact h.done i hi⟩
def set4 (xs : List Value) (k : Nat) (u : V4) : List Value := (((xs.set (k * 4) (.int .i64 u.k)).set (k * 4 + 1) (.int .i64 u.n)).set (k * 4 + 2) (.string u.s)).set (k * 4 + 3) (.bool u.b)
def setW (w : World) (G k : Nat) (u : V4) : World := (((w.setCell ⟨G, k * 4, none⟩ (.int .i64 u.k)).setCell ⟨G, k * 4 + 1, none⟩ (.int .i64 u.n)).setCell ⟨G, k * 4 + 2, none⟩ (.string u.s)).setCell ⟨G, k * 4 + 3, none⟩ (.bool u.b)
theorem Filled4.set4 {w wr : World} {G N : Nat} {L : List V4} {k : Nat} {xs : List Value} (h : Filled4 w wr G N L k xs) (u : V4) : Filled4 w (setW wr G k u) G N L k (set4 xs k u) :=
  (((h.set (Nat.le_refl _) _).set (by omega) _).set (by omega) _).set (by omega) _
theorem Filled4.put {w wr : World} {G N : Nat} {L : List V4} {k : Nat} {xs : List Value} (h : Filled4 w wr G N L k xs) (hk : k < N) {u : V4} (hu : L[k]? = some u) : Filled4 w (setW wr G k u) G N L (k + 1) (YtlinpkmfjkcoiaaDoor.set4 xs k u) := by
  have h1 := h.set4 u
  obtain ⟨a0, a1, a2, a3⟩ := cells4_get hu
  have hl := h.len
  refine ⟨h1.own, h1.len, h1.blw, h1.gl, fun i hi => ?_⟩
  by_cases hik : i < k * 4
  · exact h1.done i hik
  · unfold YtlinpkmfjkcoiaaDoor.set4
    have hc : i = k * 4 ∨ i = k * 4 + 1 ∨ i = k * 4 + 2 ∨ i = k * 4 + 3 := by omega
    rcases hc with rfl | rfl | rfl | rfl
    · rw [List.getElem?_set_ne (by omega), List.getElem?_set_ne (by omega), List.getElem?_set_ne (by omega), List.getElem?_set_self (by omega), a0]
    · rw [List.getElem?_set_ne (by omega), List.getElem?_set_ne (by omega), List.getElem?_set_self (by simp; omega), a1]
    · rw [List.getElem?_set_ne (by omega), List.getElem?_set_self (by simp; omega), a2]
    · rw [List.getElem?_set_self (by simp; omega), a3]
theorem Filled4.all {w wr : World} {G N : Nat} {L : List V4} {xs : List Value} (h : Filled4 w wr G N L N xs) (hN : N = L.length) : wr.ownsRow G 96 4 (.slice (some ⟨G, 0, none⟩) L.length L.length) L.length (cells4 L) := by
  subst hN
  have e : xs = cells4 L := by
    refine List.ext_getElem? fun i => ?_
    by_cases hi : i < L.length * 4
    · exact h.done i hi
    · rw [List.getElem?_eq_none (by rw [h.len]; omega), List.getElem?_eq_none (by rw [cells4_len]; omega)]
  rw [← e]
  exact h.own
/-- the cells of a place of the row -/
theorem Filled4.at {w wr : World} {G N : Nat} {L : List V4} {k : Nat} {xs : List Value} (h : Filled4 w wr G N L k xs) (hk : k < N) : ∃ u0 u1 u2 u3, wr.cell? ⟨G, k * 4, none⟩ = some u0 ∧ wr.cell? ⟨G, k * 4 + 1, none⟩ = some u1 ∧ wr.cell? ⟨G, k * 4 + 2, none⟩ = some u2 ∧ wr.cell? ⟨G, k * 4 + 3, none⟩ = some u3 ∧
    wr.frozen? ⟨G, k * 4, none⟩ = false ∧ wr.frozen? ⟨G, k * 4 + 1, none⟩ = false ∧ wr.frozen? ⟨G, k * 4 + 2, none⟩ = false ∧ wr.frozen? ⟨G, k * 4 + 3, none⟩ = false := by
  have hl := h.len
  have get : ∀ j, j < N * 4 → ∃ u, xs[j]? = some u := fun j hj => ⟨xs[j]'(by omega), List.getElem?_eq_getElem _⟩
  obtain ⟨u0, e0⟩ := get (k * 4) (by omega)
  obtain ⟨u1, e1⟩ := get (k * 4 + 1) (by omega)
  obtain ⟨u2, e2⟩ := get (k * 4 + 2) (by omega)
  obtain ⟨u3, e3⟩ := get (k * 4 + 3) (by omega)
  exact ⟨u0, u1, u2, u3, own4_cell h.own e0, own4_cell h.own e1, own4_cell h.own e2, own4_cell h.own e3, own4_frozen h.own _, own4_frozen h.own _, own4_frozen h.own _, own4_frozen h.own _⟩
theorem run_front22 (p : Option Addr) (k n c : Nat) (hk : k ≤ c) (w : World) : (Instr.slice 22 (.slice p n c) none (some (.int .i64 k)) none).run Tryd.prog w = .ok (.slice p k c) w := by
  have hs : (sizeOf 96).run Tryd.prog w = .ok 4 w := by kernel_rfl
  have he : Tryd.prog.elem 22 = 96 := by kernel_rfl
  rw [run_slice_h w 22 p n c (by rw [he]; exact Tryd.underlying22) .i64 k (by omega) (by omega), he, hs]
  simp [Result.andThen, sliced, map_add_zero]
end Go.Proofs.YtlinpkmfjkcoiaaDoor
namespace Go.Proofs.YtlinpkmfjkcoiaaDoor
open Go Go.RowKit
set_option maxHeartbeats 2000000
set_option linter.unusedVariables false
set_option linter.unusedSimpArgs false
attribute [local go_sem ↓] run_front22
set_option maxRecDepth 100000 in
theorem wide_any (ty : ByteArray) (tm : Int) (vl : List V4) (p : Option Addr) (c : Nat) (w : World) (hr : ValRow w p vl) (hm : vl.length * 40 ≤ 140737488351232) :
    Calls Tryd.prog 26 #[.agg #[.string ty, .int .i64 tm, .slice p vl.length c]] w fun e w' => ∃ G, e = .returned (.tuple #[.agg #[.string ty, .int .i64 tm, .slice (some ⟨G, 0, none⟩) vl.length (vl.length + 34)], .slice (some ⟨G, 0, none⟩) (vl.length + 34) (vl.length + 34)]) ∧ ValRow w' (some ⟨G, 0, none⟩) (wideL vl) ∧ Below w.heap.size w w' := by
  obtain ⟨i0, hi, hz0, hz1, hz2⟩ := info_parts infoVal
  obtain ⟨n, hn⟩ : ∃ n, n = vl.length := ⟨_, rfl⟩
  rw [← hn] at hm ⊢
  have HN := Lib.hid hn
  obtain ⟨w0, hw0⟩ : ∃ x, x = (w.alloc (.cells #[.string ty, .int .i64 tm, .slice p n c] 24)).alloc (.cells #[.string ⟨#[]⟩, .int .i64 0, .slice none 0 0] 24) := ⟨_, rfl⟩
  have hb0 : Below w.heap.size w w0 := by rw [hw0]; exact ((Below.refl _ _).alloc (Nat.le_refl _) _).alloc (by simp) _
  have T0 : Three w0 w.heap.size ty tm (.slice p n c) := by rw [hw0]; exact (Three.new w ty tm p n c).below ((Below.refl _ _).alloc (Nat.le_refl _) _)
  have T1 : Three w0 (w.heap.size + 1) ⟨#[]⟩ 0 (.slice none 0 0) := by
    have := Three.new (w.alloc (.cells #[.string ty, .int .i64 tm, .slice p n c] 24)) ⟨#[]⟩ 0 none 0 0
    simp at this
    rw [hw0]
    exact this
  have hs0 : w0.heap.size = w.heap.size + 2 := by rw [hw0]; simp
  obtain ⟨w1, hmk, hown, hgr⟩ := run_make_full (P := Tryd.prog) w0 w0.heap.size 22 96 i0 (.agg #[.int .i64 0, .int .i64 0, .string ⟨#[]⟩, .bool false]) 4 Tryd.underlying22 hi hz0 hz1 .i64 .i64 (n + 34) (by rw [hz2]; omega) (by unfold maxLen; omega) (Nat.le_refl _)
  obtain ⟨E, hE⟩ : ∃ E, E = w.heap.size := ⟨_, rfl⟩
  obtain ⟨R, hR⟩ : ∃ R, R = E + 1 := ⟨_, rfl⟩
  obtain ⟨G, hG⟩ : ∃ G, G = w0.heap.size := ⟨_, rfl⟩
  rw [← hE] at T0 T1
  rw [← hR] at T1
  rw [← hG] at hmk hown
  have hmk' : (Instr.makeSlice 22 (.int .i64 ((n : Int) + 34)) (.int .i64 ((n : Int) + 34))).run Tryd.prog w0 = .ok (.slice (some ⟨G, 0, none⟩) (n + 34) (n + 34)) w1 := by
    have e : ((n : Int) + 34) = ((n + 34 : Nat) : Int) := by omega
    rw [e]
    exact hmk
  have hb1 : Below G w0 w1 := ⟨hgr.os, hgr.tape, hgr.output, hgr.size, fun k hk => hgr.block k (by omega) (by simp)⟩
  have hgl : G < w1.heap.size := by have := (World.ownsRow.lt hown G rfl).2; exact this
  have hf : Filled4 w0 w1 G (n + 34) (wideL vl) 0 _ := ⟨hown, by have := hown.1; simpa using this, hb1, hgl, fun j hj => absurd hj (by omega)⟩
  have HF := Lib.hid hf
  have HG := Lib.hid hG
  have HW := Lib.hid hw0
  have HB0 := Lib.hid hb0
  have T0' := Lib.hid T0
  have T1' := Lib.hid T1
  have HV := Lib.hid (hr.below hb0)
  have HE := Lib.hid hE
  have HR := Lib.hid hR
  have rE : E ≠ G := by omega
  have rR : R ≠ G := by omega
  have rER : E ≠ R := by omega
  have HEG : Hid (E < G) := by show _ < _; omega
  have HRG : Hid (R < G) := by show _ < _; omega
  have HKT : Hid (∀ wx, Below G w0 wx → Three wx E ty tm (.slice p n c) ∧ Three wx R ⟨#[]⟩ 0 (.slice none 0 0)) := fun wx hx => by rw [hG] at hx; exact ⟨T0.below hx, T1.below hx⟩
  have HVX : Hid (∀ wx, Below G w0 wx → ValRow wx p vl) := fun wx hx => by rw [hG] at hx; exact HV.out.below hx
  obtain ⟨c0, c1, c2, z0, z1, z2⟩ := T0
  clear hmk hown hgr hn hf hw0 hb0 hr hs0 hb1 hgl hR T1
  go_enter Tryd.func26, Tryd.ntmps26
  go_upto_region 1 with fail
  rw [← HW.out, ← hE]
  first | rw [← show R = _ from HR.out] | skip
  clear hE hG
  have hn64 : (n : Int) ≤ 9000000000000000000 := by omega
  go_wp2
  go_loopw [6] (fun i wr => ∃ (k : Nat) (xs : List Value), k ≤ n + 34 ∧ i = .int .i64 k ∧ Filled4 w0 wr G (n + 34) (wideL vl) k xs) (fun i _ => n + 34 - (intOf i).toNat)
  case atStart => exact ⟨0, _, Nat.zero_le _, rfl, HF.out⟩
  case round =>
    obtain ⟨k, xs, hk, rfl, hfl⟩ := hrel
    have FL := Lib.hid hfl
    clear hmk' c0 c1 c2 z0 z1 z2 hfl
    by_cases hlt : k < n + 34
    · go_wp2_with fail
      refine (mark_any _ (by omega) (by omega) _).mono ?_
      rintro e w2 ⟨rfl, hb2⟩
      have FL2 := Lib.hid (FL.out.below hb2)
      clear hb2
      obtain ⟨u0, u1, u2, u3, a0, a1, a2, a3, b0, b1, b2, b3⟩ := FL2.out.at hlt
      by_cases hkn : k < n
      · have FL3 := Lib.hid (FL2.out.set4 ⟨1, 77 + ((k : Int) - (n : Int)), ⟨#[]⟩, false⟩)
        go_upto_region 7 with fail
        obtain ⟨w3, hw3⟩ : ∃ x, x = setW w2 G k ⟨1, 77 + ((k : Int) - (n : Int)), ⟨#[]⟩, false⟩ := ⟨_, rfl⟩
        rw [← hw3] at FL3
        refine (show Code.wp Tryd.prog _ _ _ (setW w2 G k ⟨1, 77 + ((k : Int) - (n : Int)), ⟨#[]⟩, false⟩) from ?_)
        rw [← hw3]
        clear hw3 a0 a1 a2 a3 b0 b1 b2 b3
        have hkl : k < vl.length := by rw [← HN.out]; exact hkn
        have HKL := Lib.hid hkl
        obtain ⟨u, b, o, hu, rfl, d0, d1, d2, d3⟩ := (HVX.out w3 FL3.out.blw).nth hkl
        have HU := Lib.hid hu
        obtain ⟨c0, c1, c2, z0, z1, z2⟩ := (HKT.out w3 FL3.out.blw).1
        obtain ⟨v0, v1, v2, v3, a0, a1, a2, a3, b0, b1, b2, b3⟩ := FL3.out.at hlt
        have FL4 := Lib.hid (FL3.out.put hlt (show (wideL vl)[k]? = some u by rw [wide_front HKL.out, hu]))
        obtain ⟨uk, un, us, ub⟩ := u
        clear hu
        go_wp2
        go_roundw
        case rel => exact ⟨k + 1, _, by omega, by go_num, FL4.out⟩
        case measure => simp [intOf]; omega
      · have HU : Hid ((wideL vl)[k]? = some ⟨1, 77 + ((k : Int) - (n : Int)), ⟨#[]⟩, false⟩) := by show _ = _; rw [HN.out]; exact wide_back (by rw [← HN.out]; omega) (by rw [← HN.out]; omega)
        have FL3 := Lib.hid (FL2.out.put hlt HU.out)
        go_wp2
        go_roundw
        case rel => exact ⟨k + 1, _, by omega, by go_num, FL3.out⟩
        case measure => simp [intOf]; omega
    · have hkk : k = n + 34 := by omega
      subst hkk
      have hall := FL.out.all (by rw [wide_len, HN.out])
      rw [wide_len, ← show n = _ from HN.out] at hall
      have HALL := Lib.hid hall
      obtain ⟨t0, t1⟩ := HKT.out wr FL.out.blw
      obtain ⟨c0, c1, c2, z0, z1, z2⟩ := t0
      obtain ⟨x0, x1, x2, y0, y1, y2⟩ := t1
      have hnn : n ≤ n + 34 := by omega
      clear hall
      have hEw : E < wr.heap.size := by have := HEG.out; have := FL.out.gl; omega
      have hRw : R < wr.heap.size := by have := HRG.out; have := FL.out.gl; omega
      go_wp2
      refine bodyPost_ret (v := .tuple #[.agg #[.string ty, .int .i64 tm, .slice (some ⟨G, 0, none⟩) n (n + 34)], .slice (some ⟨G, 0, none⟩) (n + 34) (n + 34)]) (by simp [results, Tryd.results26, go_sem, c0, c1, c2, x0, x1, x2, rER, Ne.symm rER, hEw, hRw]) rfl ?_
      refine ⟨G, rfl, valrow_of_own (B := G) (n := n + 34) (c := n + 34) ?_, ?_⟩
      · rw [wide_len, ← show n = _ from HN.out]
        exact own_set (own_set (own_set (own_set HALL.out HEG.out) HRG.out) HRG.out) HRG.out
      · have q1 : w.heap.size ≤ E := by have := HE.out; omega
        have q2 : w.heap.size ≤ R := by have := HE.out; have := HR.out; omega
        have hBB : Below w.heap.size w wr := HB0.out.trans (FL.out.blw.mono (by have := HG.out; have := HB0.out.size; omega))
        repeat (first | exact hBB | refine Below.setCell ?_ (by assumption) _)
end Go.Proofs.YtlinpkmfjkcoiaaDoor
namespace Go.Proofs.YtlinpkmfjkcoiaaDoor
open Go Go.RowKit
set_option maxHeartbeats 2000000
set_option linter.unusedVariables false
set_option linter.unusedSimpArgs false
attribute [local go_sem ↓] run_front22 run_neq_VV
theorem ValRow.front {w : World} {p : Option Addr} {vl t : List V4} (h : ValRow w p (vl ++ t)) : ValRow w p vl := by
  intro i hi
  obtain ⟨b, o, e, h1, h2, h3, h4⟩ := h i (by rw [List.length_append]; omega)
  rw [List.getElem_append_left hi] at h1 h2 h3 h4
  exact ⟨b, o, e, h1, h2, h3, h4⟩
theorem ValRow.mark {w : World} {p : Option Addr} {vl : List V4} (h : ValRow w p (wideL vl)) {k : Nat} (h1 : vl.length ≤ k) (h2 : k < vl.length + 34) : ∃ b o, p = some ⟨b, o, none⟩ ∧ w.cell? ⟨b, o + k * 4, none⟩ = some (.int .i64 1) ∧ w.cell? ⟨b, o + k * 4 + 1, none⟩ = some (.int .i64 (77 + ((k : Int) - (vl.length : Int)))) ∧ w.cell? ⟨b, o + k * 4 + 2, none⟩ = some (.string ⟨#[]⟩) ∧ w.cell? ⟨b, o + k * 4 + 3, none⟩ = some (.bool false) := by
  have hk : k < (wideL vl).length := by rw [wide_len]; exact h2
  obtain ⟨b, o, e, c0, c1, c2, c3⟩ := h k hk
  have e2 := wide_back h1 h2
  rw [List.getElem?_eq_getElem hk] at e2
  rw [Option.some.inj e2] at c0 c1 c2 c3
  exact ⟨b, o, e, c0, c1, c2, c3⟩
set_option maxRecDepth 100000 in
theorem tight_any (ty : ByteArray) (tm : Int) (vl : List V4) (p q : Option Addr) (c d : Nat) (hd : vl.length ≤ d) (hdm : d ≤ maxLen) (w : World) (hr : ValRow w p vl) (hq : ValRow w q (wideL vl)) (hm : vl.length * 40 ≤ 140737488351232) :
    Calls Tryd.prog 28 #[.slice q (vl.length + 34) d, .agg #[.string ty, .int .i64 tm, .slice p vl.length c]] w fun e w' => e = .returned (.bool true) ∧ Below w.heap.size w w' := by
  obtain ⟨w0, hw0⟩ : ∃ x, x = w.alloc (.cells #[.string ty, .int .i64 tm, .slice p vl.length c] 24) := ⟨_, rfl⟩
  have hb0 : Below w.heap.size w w0 := by rw [hw0]; exact (Below.refl _ _).alloc (Nat.le_refl _) _
  have T0 : Three w0 w.heap.size ty tm (.slice p vl.length c) := by rw [hw0]; exact Three.new w ty tm p vl.length c
  have HVT : Hid (∀ wx, Below w0.heap.size w0 wx → Calls Tryd.prog 50 #[.slice q vl.length d, .slice p vl.length c] wx fun e w' => e = .returned (.bool true) ∧ Below wx.heap.size wx w') := fun wx hx => vals_true vl q p d c wx (((hq.below hb0).below hx).front) ((hr.below hb0).below hx) (by unfold maxLen; omega)
  have HQ := Lib.hid (hq.below hb0)
  obtain ⟨n, hn⟩ : ∃ n, n = vl.length := ⟨_, rfl⟩
  have HN := Lib.hid hn
  rw [← hn] at hd hm hw0 T0 HVT ⊢
  have HB0 := Lib.hid hb0
  have HW := Lib.hid hw0
  have hE0 := lt_of_cell T0.c2
  obtain ⟨E, hE⟩ : ∃ E, E = w.heap.size := ⟨_, rfl⟩
  rw [← hE] at T0 hE0
  have TT := Lib.hid T0
  have HS : Hid (∀ wx, Below w0.heap.size w0 wx → Below w0.heap.size w0 wx ∧ wx.cell? ⟨E, 2, none⟩ = some (.slice p n c)) := fun wx hx => ⟨hx, (hx.cell (p := ⟨E, 2, none⟩) hE0).trans T0.c2⟩
  obtain ⟨c0, c1, c2, z0, z1, z2⟩ := T0
  unfold maxLen at hdm
  clear hw0 hb0 hr hq hn
  go_enter Tryd.func28, Tryd.ntmps28
  go_upto_region 1 with fail
  rw [← HW.out, ← hE]
  clear hE
  have e1 : IntKind.i64.wrap ((n : Int) + 34) = (n : Int) + 34 := by rw [IntWalk.i64_in _ (by omega)]
  have e2 : (((n : Int) + 34) != ((n : Int) + 34)) = false := by simp
  have e3 : (0 : Int) ≤ (n : Int) := by omega
  have e4 : (n : Int) ≤ (d : Int) := by omega
  go_wp2
  go_region_held3 (fun wx => Below w0.heap.size w0 wx ∧ wx.cell? ⟨E, 2, none⟩ = some (.slice p n c))
    ((refine HS.out _ ?_; first | assumption | exact Below.refl _ _ | exact (Below.refl _ _).drew | exact held_below (by assumption)))
    (first | (go_at_call 50; refine (HVT.out _ (held_below (by assumption))).mono ?_; rintro e w1 ⟨rfl, hb1⟩; have hB1 : Below w0.heap.size w0 w1 := held_on (by assumption) hb1))
  all_goals
    have HB1 := Lib.hid hB1
    clear c0 c1 c2 z0 z1 z2 e1 e2
    go_wp2
    go_loopw [6] (fun i wr => ∃ k : Nat, n ≤ k ∧ k ≤ n + 34 ∧ i = .int .i64 k ∧ Below w0.heap.size w0 wr) (fun i _ => n + 34 - (intOf i).toNat)
    case atStart => exact ⟨n, Nat.le_refl _, by omega, rfl, HB1.out⟩
    case round =>
      obtain ⟨k, hnk, hk, rfl, hb⟩ := hrel
      have HB := Lib.hid hb
      clear hb
      by_cases hlt : k < n + 34
      · obtain ⟨b, o, rfl, d0, d1, d2, d3⟩ := (HQ.out.below HB.out).mark (by rw [← HN.out]; exact hnk) (by rw [← HN.out]; exact hlt)
        rw [← show n = _ from HN.out] at d1
        have hbl := lt_of_cell d0
        have HSK : Hid (∀ wx, Below wr.heap.size wr wx → Below wr.heap.size wr wx ∧ wx.cell? ⟨b, o + k * 4, none⟩ = some (.int .i64 1) ∧ wx.cell? ⟨b, o + k * 4 + 1, none⟩ = some (.int .i64 (77 + ((k : Int) - (n : Int)))) ∧ wx.cell? ⟨b, o + k * 4 + 2, none⟩ = some (.string ⟨#[]⟩) ∧ wx.cell? ⟨b, o + k * 4 + 3, none⟩ = some (.bool false)) := fun wx hx =>
          ⟨hx, (hx.cell (p := ⟨b, o + k * 4, none⟩) hbl).trans d0, (hx.cell (p := ⟨b, o + k * 4 + 1, none⟩) hbl).trans d1, (hx.cell (p := ⟨b, o + k * 4 + 2, none⟩) hbl).trans d2, (hx.cell (p := ⟨b, o + k * 4 + 3, none⟩) hbl).trans d3⟩
        have e5 : IntKind.i64.wrap ((k : Int) - (n : Int)) = (k : Int) - (n : Int) := by rw [IntWalk.i64_in _ (by omega)]
        have HMK : Hid (∀ wx, Calls Tryd.prog 55 #[.int .i64 ((k : Int) - (n : Int))] wx fun e w' => e = .returned (.agg #[.int .i64 1, .int .i64 (77 + ((k : Int) - (n : Int))), .string ⟨#[]⟩, .bool false]) ∧ Below wx.heap.size wx w') := fun wx => mark_any _ (by omega) (by omega) wx
        go_wp2
        go_region_held3 (fun wx => Below wr.heap.size wr wx ∧ wx.cell? ⟨b, o + k * 4, none⟩ = some (.int .i64 1) ∧ wx.cell? ⟨b, o + k * 4 + 1, none⟩ = some (.int .i64 (77 + ((k : Int) - (n : Int)))) ∧ wx.cell? ⟨b, o + k * 4 + 2, none⟩ = some (.string ⟨#[]⟩) ∧ wx.cell? ⟨b, o + k * 4 + 3, none⟩ = some (.bool false))
          ((refine HSK.out _ ?_; first | assumption | exact Below.refl _ _ | exact (Below.refl _ _).drew | exact held_below (by assumption)))
          (first | (go_at_call 55; refine (HMK.out _).mono ?_; rintro e w2 ⟨rfl, hb2⟩; have hB2 : Below wr.heap.size wr w2 := held_on (by assumption) hb2))
        all_goals
          have HB2 : Hid (Below w0.heap.size w0 w2) := HB.out.trans (hB2.mono HB.out.size)
          clear d0 d1 d2 d3 e5
          go_wp2
          go_roundw
          case rel => exact ⟨k + 1, by omega, by omega, by go_num, HB2.out⟩
          case measure => simp [intOf]; omega
      · go_wp2
        go_ret
        exact ⟨rfl, HB0.out.trans (HB.out.mono HB0.out.size)⟩
end Go.Proofs.YtlinpkmfjkcoiaaDoor
namespace Go.Proofs.YtlinpkmfjkcoiaaDoor
open Go Go.RowKit
set_option maxHeartbeats 2000000
set_option linter.unusedVariables false
set_option linter.unusedSimpArgs false
theorem ValRow.kept {w w' : World} {g : Nat} {vl : List V4} (h : ValRow w (some ⟨g, 0, none⟩) vl) {row : Option Nat} (hg : w.grownBy w' row) (hr : some g ≠ row) : ValRow w' (some ⟨g, 0, none⟩) vl := by
  intro i hi
  obtain ⟨b, o, e, c0, c1, c2, c3⟩ := h i hi
  simp only [Option.some.injEq, Addr.mk.injEq, and_true] at e
  obtain ⟨rfl, rfl⟩ := e
  have hb := hg.block g (lt_of_cell c0) hr
  exact ⟨g, 0, rfl, (World.cell?_of_block (a := ⟨g, 0 + i * 4, none⟩) hb).trans c0, (World.cell?_of_block (a := ⟨g, 0 + i * 4 + 1, none⟩) hb).trans c1, (World.cell?_of_block (a := ⟨g, 0 + i * 4 + 2, none⟩) hb).trans c2, (World.cell?_of_block (a := ⟨g, 0 + i * 4 + 3, none⟩) hb).trans c3⟩
theorem wide_head {w : World} {g : Nat} {vl : List V4} (h : ValRow w (some ⟨g, 0, none⟩) (wideL vl)) : ∃ x, w.cell? ⟨g, 0, none⟩ = some (.int .i64 x) := by
  obtain ⟨b, o, e, c0, _⟩ := h 0 (by rw [wide_len]; omega)
  simp only [Option.some.injEq, Addr.mk.injEq, and_true] at e
  obtain ⟨rfl, rfl⟩ := e
  exact ⟨_, c0⟩
theorem below_none {w w' : World} (hb : Below w.heap.size w w') : w.grownBy w' none := ⟨hb.os, hb.tape, hb.output, hb.size, fun i hi _ => hb.block i hi⟩
/-- so many of the events are filled in -/
structure Giv (w0 wr : World) (G n : Nat) (es : List Evt) (k k' : Nat) (xs rl : List Value) (rv : Value) : Prop where
  own : wr.ownsRow G 24 3 (.slice (some ⟨G, 0, none⟩) (n + 34) (n + 34)) (n + 34) xs
  blw : Below G w0 wr
  ro : wr.ownsRow G 22 1 rv rl.length rl
  rne : rv.ownBlock ≠ some G
  rh : ∀ g, rv.ownBlock = some g → ∃ p m c, rl[0]? = some (.slice p m c)
  x0 : ∃ s, xs[0]? = some (.string s)
  rlen : rl.length = if k < n then k else n
  dn : ∀ j e, j < k → es[j]? = some e → ∃ g, rl[j]? = some (.slice (some ⟨g, 0, none⟩) (e.vals.length + 34) (e.vals.length + 34)) ∧ xs[j * 3]? = some (.string e.ty) ∧ xs[j * 3 + 1]? = some (.int .i64 e.tm) ∧ xs[j * 3 + 2]? = some (.slice (some ⟨g, 0, none⟩) e.vals.length (e.vals.length + 34)) ∧ ValRow wr (some ⟨g, 0, none⟩) (wideL e.vals)
  mks : ∀ j, n ≤ j → j < k → xs[j * 3]? = some (.string ⟨#[]⟩) ∧ xs[j * 3 + 1]? = some (.int .i64 (78 + ((j : Int) - (n : Int)))) ∧ xs[j * 3 + 2]? = some (.slice none 0 0)
  rs : ∀ j, k' ≤ j → j < n + 34 → xs[j * 3]? = some (.string ⟨#[]⟩) ∧ xs[j * 3 + 1]? = some (.int .i64 0) ∧ xs[j * 3 + 2]? = some (.slice none 0 0)
theorem Giv.len {w0 wr : World} {G n : Nat} {es : List Evt} {k k' : Nat} {xs rl : List Value} {rv : Value} (h : Giv w0 wr G n es k k' xs rl rv) : xs.length = (n + 34) * 3 := h.own.1
theorem Giv.gl {w0 wr : World} {G n : Nat} {es : List Evt} {k k' : Nat} {xs rl : List Value} {rv : Value} (h : Giv w0 wr G n es k k' xs rl rv) : G < wr.heap.size := (World.ownsRow.lt h.own G rfl).2
theorem Giv.cell {w0 wr : World} {G n : Nat} {es : List Evt} {k k' : Nat} {xs rl : List Value} {rv : Value} (h : Giv w0 wr G n es k k' xs rl rv) {i : Nat} {u : Value} (hi : xs[i]? = some u) : wr.cell? ⟨G, i, none⟩ = some u := by
  have := h.own.cells (g := G) rfl i u hi
  rw [Addr.add_lit] at this
  simpa using this
theorem Giv.apart {w0 wr : World} {G n : Nat} {es : List Evt} {k k' : Nat} {xs rl : List Value} {rv : Value} (h : Giv w0 wr G n es k k' xs rl rv) {g : Nat} {vl : List V4} (hv : ValRow wr (some ⟨g, 0, none⟩) (wideL vl)) : g ≠ G ∧ some g ≠ rv.ownBlock := by
  obtain ⟨x, hx⟩ := wide_head hv
  refine ⟨fun e => ?_, fun e => ?_⟩
  · subst e
    obtain ⟨s, hs⟩ := h.x0
    rw [h.cell hs] at hx
    cases hx
  · obtain ⟨p, m, c, hp⟩ := h.rh g e.symm
    have := h.ro.cells (g := g) e.symm 0 _ hp
    rw [Addr.add_lit] at this
    rw [Nat.zero_add] at this
    rw [this] at hx
    cases hx
theorem Giv.below {w0 wr w' : World} {G n : Nat} {es : List Evt} {k k' : Nat} {xs rl : List Value} {rv : Value} (h : Giv w0 wr G n es k k' xs rl rv) (hb : Below wr.heap.size wr w') : Giv w0 w' G n es k k' xs rl rv := by
  have hg := below_none hb
  refine ⟨World.ownsRow.kept h.own hg (.inr (by simp [Value.ownBlock])), h.blw.trans (hb.mono (Nat.le_of_lt h.gl)), ?_, h.rne, h.rh, h.x0, h.rlen, fun j e hj he => ?_, h.mks, h.rs⟩
  · refine World.ownsRow.kept h.ro hg ?_
    cases hr : rv.ownBlock with
    | none => exact .inl rfl
    | some g => exact .inr (by simp)
  · obtain ⟨g, a1, a2, a3, a4, a5⟩ := h.dn j e hj he
    exact ⟨g, a1, a2, a3, a4, a5.kept hg (by simp)⟩
/-- one cell of the place that is being filled -/
theorem Giv.set {w0 wr : World} {G n : Nat} {es : List Evt} {k j : Nat} {xs rl : List Value} {rv : Value} (h : Giv w0 wr G n es k (k + 1) xs rl rv) (h1 : k * 3 ≤ j) (h2 : j < k * 3 + 3) (u : Value) (hu : j = 0 → ∃ s, u = .string s) (hk : k < n + 34) :
    Giv w0 (wr.setCell ⟨G, j, none⟩ u) G n es k (k + 1) (xs.set j u) rl rv := by
  obtain ⟨ho, hg⟩ := h.own.stored j u
  have hl := h.len
  refine ⟨ho, h.blw.setCell (Nat.le_refl _) _, ?_, h.rne, h.rh, ?_, h.rlen, fun i e hi he => ?_, fun i hi hik => ?_, fun i hi hin => ?_⟩
  · refine World.ownsRow.kept h.ro hg ?_
    cases hr : rv.ownBlock with
    | none => exact .inl rfl
    | some g => exact .inr (by have := h.rne; rw [hr] at this; exact this)
  · by_cases h0 : j = 0
    · obtain ⟨s, rfl⟩ := hu h0
      subst h0
      exact ⟨s, List.getElem?_set_self (by omega)⟩
    · rw [List.getElem?_set_ne h0]; exact h.x0
  · obtain ⟨g, a1, a2, a3, a4, a5⟩ := h.dn i e hi he
    refine ⟨g, a1, ?_, ?_, ?_, a5.kept hg (by simpa using (h.apart a5).1)⟩
    · rw [List.getElem?_set_ne (by omega)]; exact a2
    · rw [List.getElem?_set_ne (by omega)]; exact a3
    · rw [List.getElem?_set_ne (by omega)]; exact a4
  · obtain ⟨a1, a2, a3⟩ := h.mks i hi hik
    exact ⟨by rw [List.getElem?_set_ne (by omega)]; exact a1, by rw [List.getElem?_set_ne (by omega)]; exact a2, by rw [List.getElem?_set_ne (by omega)]; exact a3⟩
  · obtain ⟨a1, a2, a3⟩ := h.rs i hi hin
    exact ⟨by rw [List.getElem?_set_ne (by omega)]; exact a1, by rw [List.getElem?_set_ne (by omega)]; exact a2, by rw [List.getElem?_set_ne (by omega)]; exact a3⟩
theorem Giv.begin {w0 wr : World} {G n : Nat} {es : List Evt} {k : Nat} {xs rl : List Value} {rv : Value} (h : Giv w0 wr G n es k k xs rl rv) : Giv w0 wr G n es k (k + 1) xs rl rv :=
  ⟨h.own, h.blw, h.ro, h.rne, h.rh, h.x0, h.rlen, h.dn, h.mks, fun j hj hn => h.rs j (by omega) hn⟩
/-- a mark is whole -/
theorem Giv.mark {w0 wr : World} {G n : Nat} {es : List Evt} {k : Nat} {xs rl : List Value} {rv : Value} (h : Giv w0 wr G n es k (k + 1) xs rl rv) (hes : es.length = n) (hk : n ≤ k) (h0 : xs[k * 3]? = some (.string ⟨#[]⟩)) (h1 : xs[k * 3 + 1]? = some (.int .i64 (78 + ((k : Int) - (n : Int))))) (h2 : xs[k * 3 + 2]? = some (.slice none 0 0)) : Giv w0 wr G n es (k + 1) (k + 1) xs rl rv := by
  refine ⟨h.own, h.blw, h.ro, h.rne, h.rh, h.x0, by rw [h.rlen, if_neg (by omega), if_neg (by omega)], fun j e hj he => ?_, fun j hj hjk => ?_, h.rs⟩
  · have hlt := (List.getElem?_eq_some_iff.1 he).1
    exact h.dn j e (by omega) he
  · by_cases hjk2 : j = k
    · subst hjk2; exact ⟨h0, h1, h2⟩
    · exact h.mks j hj (by omega)
/-- an event is whole, and its room kept -/
theorem Giv.event {w0 wr w2 : World} {G n g g' cap : Nat} {o : Obj} {es : List Evt} {e : Evt} {k : Nat} {xs rl : List Value} {rv : Value} (h : Giv w0 wr G n es k (k + 1) xs rl rv) (hes : es.length = n) (hk : es[k]? = some e)
    (h0 : xs[k * 3]? = some (.string e.ty)) (h1 : xs[k * 3 + 1]? = some (.int .i64 e.tm)) (h2 : xs[k * 3 + 2]? = some (.slice (some ⟨g, 0, none⟩) e.vals.length (e.vals.length + 34))) (hv : ValRow wr (some ⟨g, 0, none⟩) (wideL e.vals))
    (ho : w2.ownsRow G 22 1 (.slice (some ⟨g', 0, none⟩) (rl.length + 1) cap) (rl.length + 1) (rl ++ [.slice (some ⟨g, 0, none⟩) (e.vals.length + 34) (e.vals.length + 34)])) (hgr : (wr.alloc o).grownBy w2 rv.ownBlock) (hwh : rv.ownBlock = some g' ∨ g' = wr.heap.size + 1) :
    Giv w0 w2 G n es (k + 1) (k + 1) xs (rl ++ [.slice (some ⟨g, 0, none⟩) (e.vals.length + 34) (e.vals.length + 34)]) (.slice (some ⟨g', 0, none⟩) (rl.length + 1) cap) := by
  have hkn : k < n := by have := (List.getElem?_eq_some_iff.1 hk).1; omega
  have hrl : rl.length = k := by rw [h.rlen, if_pos hkn]
  have hal : Below wr.heap.size wr (wr.alloc o) := (Below.refl _ _).alloc (Nat.le_refl _) _
  have ha := h.below hal
  have hva : ∀ {g : Nat} {vl : List V4}, ValRow wr (some ⟨g, 0, none⟩) (wideL vl) → ValRow w2 (some ⟨g, 0, none⟩) (wideL vl) := fun {g vl} hx => by
    have hx2 := hx.below hal
    exact hx2.kept hgr (ha.apart hx2).2
  refine ⟨World.ownsRow.kept ha.own hgr (.inr (by simpa [Value.ownBlock] using h.rne.symm)), ha.blw.grown hgr (Nat.le_of_lt ha.gl) (fun q hq => (World.ownsRow.lt h.ro q hq).1), ?_, ?_, ?_, h.x0, ?_, fun j u hj hu => ?_, fun j hj hjk => h.mks j hj (by omega), h.rs⟩
  · simpa using ho
  · intro e2
    simp only [Value.ownBlock, Option.some.injEq] at e2
    rcases hwh with hw | hw
    · rw [e2] at hw; exact h.rne hw
    · have := h.gl; omega
  · intro q hq
    cases rl with
    | nil => exact ⟨_, _, _, rfl⟩
    | cons a t =>
      rcases hwh with hw | hw
      · obtain ⟨p, m, c, hp⟩ := h.rh g' hw
        exact ⟨p, m, c, by simpa using hp⟩
      · obtain ⟨e3, he3⟩ : ∃ e3, es[0]? = some e3 := ⟨es[0]'(by omega), List.getElem?_eq_getElem _⟩
        obtain ⟨g3, a1, _⟩ := h.dn 0 e3 (by simp at hrl; omega) he3
        exact ⟨_, _, _, by simpa using a1⟩
  · rw [List.length_append, hrl]
    simp only [List.length_singleton]
    split <;> omega
  · by_cases hjk : j = k
    · subst hjk
      rw [hk] at hu
      obtain rfl := Option.some.inj hu
      exact ⟨g, by rw [List.getElem?_append_right (by omega), hrl, Nat.sub_self]; rfl, h0, h1, h2, hva hv⟩
    · obtain ⟨g3, a1, a2, a3, a4, a5⟩ := h.dn j u (by omega) hu
      exact ⟨g3, by rw [List.getElem?_append_left (by omega)]; exact a1, a2, a3, a4, hva a5⟩
end Go.Proofs.YtlinpkmfjkcoiaaDoor
namespace Go.Proofs.YtlinpkmfjkcoiaaDoor
open Go Go.RowKit
set_option maxHeartbeats 4000000
set_option linter.unusedVariables false
set_option linter.unusedSimpArgs false
theorem infoRow : (Tryd.prog.info? 22).map (fun i => (i.zero, i.size, i.bytes)) = some (some (.slice none 0 0), 1, 24) := by kernel_rfl
theorem made3 (n j : Nat) (h : j < n) : (madeCells (Value.agg #[.string ⟨#[]⟩, .int .i64 0, .slice none 0 0]).cells (n * 3)).toList[j * 3]? = some (.string ⟨#[]⟩) ∧ (madeCells (Value.agg #[.string ⟨#[]⟩, .int .i64 0, .slice none 0 0]).cells (n * 3)).toList[j * 3 + 1]? = some (.int .i64 0) ∧ (madeCells (Value.agg #[.string ⟨#[]⟩, .int .i64 0, .slice none 0 0]).cells (n * 3)).toList[j * 3 + 2]? = some (.slice none 0 0) := by
  have hs : (Value.agg #[.string ⟨#[]⟩, .int .i64 0, .slice none 0 0]).cells = #[.string ⟨#[]⟩, .int .i64 0, .slice none 0 0] := by rfl
  rw [hs]
  unfold madeCells
  have key : ∀ (F : Nat → Value) (t : Nat), t < 3 → ((Array.range (n * 3)).map F).toList[j * 3 + t]? = some (F (j * 3 + t)) := by
    intro F t ht
    rw [Array.getElem?_toList, Array.getElem?_map, Array.getElem?_range, if_pos (by omega)]
    rfl
  refine ⟨(key _ 0 (by omega)).trans ?_, (key _ 1 (by omega)).trans ?_, (key _ 2 (by omega)).trans ?_⟩
  · simp only [List.size_toArray, List.length_cons, List.length_nil]
    rw [show (j * 3 + 0) % (0 + 1 + 1 + 1) = 0 by omega]
    rfl
  · simp only [List.size_toArray, List.length_cons, List.length_nil]
    rw [show (j * 3 + 1) % (0 + 1 + 1 + 1) = 1 by omega]
    rfl
  · simp only [List.size_toArray, List.length_cons, List.length_nil]
    rw [show (j * 3 + 2) % (0 + 1 + 1 + 1) = 2 by omega]
    rfl
theorem Giv.frozen {w0 wr : World} {G n : Nat} {es : List Evt} {k k' : Nat} {xs rl : List Value} {rv : Value} (h : Giv w0 wr G n es k k' xs rl rv) (i : Nat) : wr.frozen? ⟨G, i, none⟩ = false := by
  rcases h.own.2 with ⟨h1, _⟩ | ⟨g', cap, cur, h1, _, hb, _⟩
  · cases h1
  · simp only [Value.slice.injEq, Option.some.injEq, Addr.mk.injEq, and_true] at h1
    obtain ⟨rfl, _⟩ := h1
    simp [World.frozen?, hb]
set_option maxRecDepth 100000 in
theorem given_any (es : List Evt) (p : Option Addr) (c : Nat) (w : World) (hr : EvtRow w p es) (hin : ∀ e ∈ es, InE e) (hm : es.length * 48 ≤ 140737488351232) :
    Calls Tryd.prog 32 #[.slice p es.length c] w fun e w' => ∃ (G : Nat) (R : Option Addr) (rc : Nat) (xs rl : List Value), e = .returned (.tuple #[.slice (some ⟨G, 0, none⟩) (es.length + 34) (es.length + 34), .slice R es.length rc]) ∧ Giv w w' G es.length es (es.length + 34) (es.length + 34) xs rl (.slice R es.length rc) ∧ w.heap.size ≤ G := by
  obtain ⟨n, hn⟩ : ∃ n, n = es.length := ⟨_, rfl⟩
  have HN := Lib.hid hn
  rw [← hn] at hm ⊢
  have HR := Lib.hid hr
  have HIN := Lib.hid hin
  obtain ⟨i0, hi, hz0, hz1, hz2⟩ := info_parts infoEvt
  obtain ⟨j0, hj, ha0, ha1, ha2⟩ := info_parts infoRow
  obtain ⟨w1, hmk, hown, hgr⟩ := run_make_full (P := Tryd.prog) w w.heap.size 38 24 i0 (.agg #[.string ⟨#[]⟩, .int .i64 0, .slice none 0 0]) 3 Tryd.underlying38 hi hz0 hz1 .i64 .i64 (n + 34) (by rw [hz2]; omega) (by unfold maxLen; omega) (Nat.le_refl _)
  obtain ⟨G, hG⟩ : ∃ G, G = w.heap.size := ⟨_, rfl⟩
  rw [← hG] at hmk hown
  have hmk' : (Instr.makeSlice 38 (.int .i64 ((n : Int) + 34)) (.int .i64 ((n : Int) + 34))).run Tryd.prog w = .ok (.slice (some ⟨G, 0, none⟩) (n + 34) (n + 34)) w1 := by
    have e : ((n : Int) + 34) = ((n + 34 : Nat) : Int) := by omega
    rw [e]
    exact hmk
  have hb1 : Below G w w1 := ⟨hgr.os, hgr.tape, hgr.output, hgr.size, fun k hk => hgr.block k (by omega) (by simp)⟩
  have HG := Lib.hid hG
  have hn64 : (n : Int) ≤ 9000000000000000000 := by omega
  have HGI : Hid (Giv w w1 G n es 0 0 (madeCells (Value.agg #[.string ⟨#[]⟩, .int .i64 0, .slice none 0 0]).cells ((n + 34) * 3)).toList [] (.slice none 0 0)) :=
    ⟨hown, hb1, World.ownsRow_nil _ _ _ _, by simp [Value.ownBlock], by simp [Value.ownBlock], ⟨_, by have := (made3 (n + 34) 0 (by omega)).1; simpa using this⟩, by by_cases h : 0 < n <;> simp [h]; omega, fun j e h => absurd h (Nat.not_lt_zero _), fun j _ h => absurd h (Nat.not_lt_zero _), fun j _ h => made3 (n + 34) j h⟩
  clear hmk hown hgr hb1 hn hr hin hG
  go_enter Tryd.func32, Tryd.ntmps32
  go_wp2
  go_loopw [6, 7] (fun rv iv wr => ∃ (k : Nat) (R : Option Addr) (rn rc : Nat) (xs rl : List Value), k ≤ n + 34 ∧ iv = .int .i64 k ∧ rv = .slice R rn rc ∧ rn = rl.length ∧ Giv w wr G n es k k xs rl (.slice R rn rc)) (fun _ iv _ => n + 34 - (intOf iv).toNat)
  case atStart => exact ⟨0, none, 0, 0, _, [], Nat.zero_le _, rfl, rfl, rfl, HGI.out⟩
  case round =>
    obtain ⟨k, R, rn, rc, xs, rl, hk, rfl, rfl, hrn, hgv⟩ := hrel
    have HGV := Lib.hid hgv
    have HRN := Lib.hid hrn
    clear hmk' hgv hrn
    by_cases hlt : k < n + 34
    · obtain ⟨r0, r1, r2⟩ := HGV.out.rs k (Nat.le_refl _) hlt
      have c1 := HGV.out.cell r1
      have z1 := HGV.out.frozen (k * 3 + 1)
      have hlen := HGV.out.len
      have G3 := Lib.hid (HGV.out.begin.set (j := k * 3 + 1) (by omega) (by omega) (.int .i64 (78 + (k : Int) - (n : Int))) (by omega) hlt)
      have X0 : Hid ((xs.set (k * 3 + 1) (.int .i64 (78 + (k : Int) - (n : Int))))[k * 3]? = some (.string ⟨#[]⟩)) := by show _ = _; rw [List.getElem?_set_ne (by omega)]; exact r0
      have X1 : Hid ((xs.set (k * 3 + 1) (.int .i64 (78 + (k : Int) - (n : Int))))[k * 3 + 1]? = some (.int .i64 (78 + (k : Int) - (n : Int)))) := by show _ = _; exact List.getElem?_set_self (by omega)
      have X2 : Hid ((xs.set (k * 3 + 1) (.int .i64 (78 + (k : Int) - (n : Int))))[k * 3 + 2]? = some (.slice none 0 0)) := by show _ = _; rw [List.getElem?_set_ne (by omega)]; exact r2
      clear r0 r1 r2 hlen
      obtain ⟨ys, hys⟩ : ∃ ys, ys = xs.set (k * 3 + 1) (.int .i64 (78 + (k : Int) - (n : Int))) := ⟨_, rfl⟩
      rw [← hys] at G3 X0 X1 X2
      clear hys
      go_upto_region 8 with fail
      obtain ⟨w3, hw3⟩ : ∃ x, x = wr.setCell ⟨G, k * 3 + 1, none⟩ (.int .i64 (78 + (k : Int) - (n : Int))) := ⟨_, rfl⟩
      rw [← hw3] at G3
      first
        | rw [← hw3]
        | (refine (show Code.wp Tryd.prog _ _ _ (wr.setCell ⟨G, k * 3 + 1, none⟩ (.int .i64 (78 + (k : Int) - (n : Int)))) from ?_); rw [← hw3])
      clear hw3 c1 z1
      by_cases hkn : k < n
      · have hkl : k < es.length := by rw [← HN.out]; exact hkn
        obtain ⟨ty, tm, vl, b, o, qv, dv, hev, rfl, c0, c1, c2, hvr⟩ := (HR.out.below (w' := w3) (by have := G3.out.blw; rw [show G = _ from HG.out] at this; exact this)).nth hkl
        have hie : InE ⟨ty, tm, vl⟩ := by rw [hev]; exact HIN.out _ (List.getElem_mem hkl)
        have HWI := Lib.hid (wide_any ty tm vl qv dv w3 hvr hie.2.1)
        have HEV : Hid (es[k]? = some ⟨ty, tm, vl⟩) := by show _ = _; rw [hev]; exact List.getElem?_eq_getElem hkl
        obtain ⟨vn, hvn⟩ : ∃ vn, vn = vl.length := ⟨_, rfl⟩
        rw [← hvn] at HWI c2
        have HVN := Lib.hid hvn
        clear hvn hie hvr hev hkl
        go_wp2_with fail
        refine HWI.out.mono ?_
        rintro e w4 ⟨G2, rfl, hvw, hb4⟩
        have G4' := Lib.hid (G3.out.below hb4)
        have HV4' := Lib.hid hvw
        clear hvw hb4 HWI c0 c1 c2
        go_upto_region 10 with fail
        have hal : Below w4.heap.size w4 (w4.alloc (.cells #[.string ty, .int .i64 tm, .slice (some ⟨G2, 0, none⟩) vn (vn + 34)] 24)) := (Below.refl _ _).alloc (Nat.le_refl _) _
        have T3 := Lib.hid (Three.new w4 ty tm (some ⟨G2, 0, none⟩) vn (vn + 34))
        have G4 := Lib.hid (G4'.out.below hal)
        have HV4 := Lib.hid (HV4'.out.below hal)
        obtain ⟨w5, hw5⟩ : ∃ x, x = w4.alloc (.cells #[.string ty, .int .i64 tm, .slice (some ⟨G2, 0, none⟩) vn (vn + 34)] 24) := ⟨_, rfl⟩
        rw [← hw5] at G4 HV4 T3 ⊢
        obtain ⟨X, hX⟩ : ∃ X, X = w4.heap.size := ⟨_, rfl⟩
        rw [← hX] at T3 ⊢
        obtain ⟨y0, y1, y2, _, _, _⟩ := T3.out
        clear hal hw5 hX
        have c0 := G4.out.cell X0.out
        have c1 := G4.out.cell X1.out
        have c2 := G4.out.cell X2.out
        have z0 := G4.out.frozen (k * 3)
        have z1 := G4.out.frozen (k * 3 + 1)
        have z2 := G4.out.frozen (k * 3 + 2)
        go_upto_region 11 with fail
        have hk34 : k < n + 34 := hlt
        have hlen := G4.out.len
        have a0 := G4.out.set (j := k * 3) (by omega) (by omega) (.string ty) (fun _ => ⟨ty, rfl⟩) hk34
        have a1 := a0.set (j := k * 3 + 1) (by omega) (by omega) (.int .i64 tm) (by omega) hk34
        have a2 := a1.set (j := k * 3 + 2) (by omega) (by omega) (.slice (some ⟨G2, 0, none⟩) vn (vn + 34)) (by omega) hk34
        have hV6 : ValRow (((w5.setCell ⟨G, k * 3, none⟩ (.string ty)).setCell ⟨G, k * 3 + 1, none⟩ (.int .i64 tm)).setCell ⟨G, k * 3 + 2, none⟩ (.slice (some ⟨G2, 0, none⟩) vn (vn + 34))) (some ⟨G2, 0, none⟩) (wideL vl) := by
          have v1 := HV4.out.kept (G4.out.own.stored (k * 3) (.string ty)).2 (by simpa using (G4.out.apart HV4.out).1)
          have v2 := v1.kept (a0.own.stored (k * 3 + 1) (.int .i64 tm)).2 (by simpa using (a0.apart v1).1)
          exact v2.kept (a1.own.stored (k * 3 + 2) (.slice (some ⟨G2, 0, none⟩) vn (vn + 34))).2 (by simpa using (a1.apart v2).1)
        obtain ⟨w6, hw6⟩ : ∃ x, x = ((w5.setCell ⟨G, k * 3, none⟩ (.string ty)).setCell ⟨G, k * 3 + 1, none⟩ (.int .i64 tm)).setCell ⟨G, k * 3 + 2, none⟩ (.slice (some ⟨G2, 0, none⟩) vn (vn + 34)) := ⟨_, rfl⟩
        rw [← hw6] at a2 hV6 ⊢
        obtain ⟨zs, hzs⟩ : ∃ zs, zs = ((ys.set (k * 3) (.string ty)).set (k * 3 + 1) (.int .i64 tm)).set (k * 3 + 2) (.slice (some ⟨G2, 0, none⟩) vn (vn + 34)) := ⟨_, rfl⟩
        rw [← hzs] at a2
        have Z0 : Hid (zs[k * 3]? = some (.string ty)) := by show _ = _; rw [hzs, List.getElem?_set_ne (by omega), List.getElem?_set_ne (by omega), List.getElem?_set_self (by omega)]
        have Z1 : Hid (zs[k * 3 + 1]? = some (.int .i64 tm)) := by show _ = _; rw [hzs, List.getElem?_set_ne (by omega), List.getElem?_set_self (by simp; omega)]
        have Z2 : Hid (zs[k * 3 + 2]? = some (.slice (some ⟨G2, 0, none⟩) vn (vn + 34))) := by show _ = _; rw [hzs, List.getElem?_set_self (by simp; omega)]
        have G6 := Lib.hid a2
        have HV6 := Lib.hid hV6
        have RO6 : Hid (w6.ownsRow G 22 1 (.slice R rn rc) rn rl) := by have := a2.ro; rw [← show rn = _ from HRN.out] at this; exact this
        have hrk : rn = k := by rw [HRN.out, a2.rlen, if_pos hkn]
        have hgl := a2.gl
        have HB6 : Hid (∀ o : Obj, G ≤ (w6.alloc o).heap.size) := fun o => (by simp; omega)
        have hm1 : rn + 1 ≤ maxLen := by unfold maxLen; omega
        have hm2 : (rn + 1) * 24 ≤ 140737488355328 := by omega
        have HRK := Lib.hid hrk
        have HONE : Hid (∀ u ∈ [Value.slice (some ⟨G2, 0, none⟩) (vn + 34) (vn + 34)], u.oneCell' = true) := by
          show ∀ _, _
          intro u hu
          simp only [List.mem_singleton] at hu
          subst hu
          rfl
        clear a0 a1 a2 hV6 hw6 hzs hlen hrk hgl y0 y1 y2 c0 c1 c2 z0 z1 z2
        go_wp2_with (at_builtin; refine wpList_append_lies _ rfl _ _ 55 rfl G 22 j0 (.slice none 0 0) 1 24 Tryd.underlying55 hj ha0 ha1 ha2 rfl (by decide) _ _ _ rfl (World.ownsRow.alloc RO6.out _) ⟨w6.heap.size, 0, none⟩ 1 1 [.slice (some ⟨G2, 0, none⟩) (vn + 34) (vn + 34)] rfl rfl (fun j u h => lit_cells w6 _ _ j u h) HONE.out (by decide) hm1 hm2 (HB6.out _) (w6.heap.size + 1) (by simp) ?_)
        intro g7 cap7 w7 hown7 hgrow7 hwh7 hlt7
        have G7 := Lib.hid (G6.out.event (e := ⟨ty, tm, vl⟩) (g := G2) (g' := g7) (cap := cap7) HN.out.symm HEV.out Z0.out Z1.out (by rw [Z2.out, ← show vn = _ from HVN.out]) HV6.out (by rw [← show vn = _ from HVN.out, ← show rn = _ from HRN.out]; exact hown7) hgrow7 hwh7)
        clear hown7 hgrow7 hwh7 hlt7
        go_wp2
        go_roundw
        case rel => exact ⟨k + 1, some ⟨g7, 0, none⟩, rn + 1, cap7, zs, rl ++ [.slice (some ⟨G2, 0, none⟩) (vl.length + 34) (vl.length + 34)], by omega, by go_num, rfl, by rw [List.length_append, ← show rn = rl.length from HRN.out]; rfl, by have := G7.out; rw [← show rn = _ from HRN.out] at this; exact this⟩
        case measure => simp [intOf]; omega
      · have GM := Lib.hid (G3.out.mark (by rw [HN.out]) (by omega) X0.out (by rw [X1.out]; congr 2; omega) X2.out)
        go_wp2
        go_roundw
        case rel => exact ⟨k + 1, R, rn, rc, _, rl, by omega, by go_num, rfl, HRN.out, GM.out⟩
        case measure => simp [intOf]; omega
    · have hkk : k = n + 34 := by omega
      subst hkk
      have hrl := HGV.out.rlen
      rw [if_neg (by omega), ← show rn = _ from HRN.out] at hrl
      subst hrl
      have HGG : Hid (w.heap.size ≤ G) := by have := HG.out; show _ ≤ _; omega
      go_wp2
      first | go_ret2 | skip
      exact ⟨G, R, rc, xs, rl, rfl, HGV.out, HGG.out⟩
end Go.Proofs.YtlinpkmfjkcoiaaDoor
namespace Go.Proofs.YtlinpkmfjkcoiaaDoor
open Go Go.RowKit
set_option maxHeartbeats 4000000
set_option linter.unusedVariables false
set_option linter.unusedSimpArgs false
theorem run_front38 (p : Option Addr) (k n c : Nat) (hk : k ≤ c) (w : World) : (Instr.slice 38 (.slice p n c) none (some (.int .i64 k)) none).run Tryd.prog w = .ok (.slice p k c) w := by
  have hs : (sizeOf 24).run Tryd.prog w = .ok 3 w := by kernel_rfl
  have he : Tryd.prog.elem 38 = 24 := by kernel_rfl
  rw [run_slice_h w 38 p n c (by rw [he]; exact Tryd.underlying38) .i64 k (by omega) (by omega), he, hs]
  simp [Result.andThen, sliced, map_add_zero]
/-- what given made stands there -/
structure Stn (w : World) (G : Nat) (R : Option Addr) (es : List Evt) : Prop where
  row : EvtRow w (some ⟨G, 0, none⟩) es
  mks : ∀ j, es.length ≤ j → j < es.length + 34 → w.cell? ⟨G, j * 3, none⟩ = some (.string ⟨#[]⟩) ∧ w.cell? ⟨G, j * 3 + 1, none⟩ = some (.int .i64 (78 + ((j : Int) - (es.length : Int)))) ∧ w.cell? ⟨G, j * 3 + 2, none⟩ = some (.slice none 0 0)
  rooms : ∀ j (h : j < es.length), ∃ b g, R = some ⟨b, 0, none⟩ ∧ w.cell? ⟨b, j, none⟩ = some (.slice (some ⟨g, 0, none⟩) (es[j].vals.length + 34) (es[j].vals.length + 34)) ∧ ValRow w (some ⟨g, 0, none⟩) (wideL es[j].vals)
theorem Stn.below {w w' : World} {G : Nat} {R : Option Addr} {es : List Evt} (h : Stn w G R es) (hb : Below w.heap.size w w') : Stn w' G R es := by
  refine ⟨h.row.below hb, fun j hj hj2 => ?_, fun j hj => ?_⟩
  · obtain ⟨c0, c1, c2⟩ := h.mks j hj hj2
    have hl := lt_of_cell c0
    exact ⟨(hb.cell (p := ⟨G, j * 3, none⟩) hl).trans c0, (hb.cell (p := ⟨G, j * 3 + 1, none⟩) hl).trans c1, (hb.cell (p := ⟨G, j * 3 + 2, none⟩) hl).trans c2⟩
  · obtain ⟨b, g, e, c0, hv⟩ := h.rooms j hj
    exact ⟨b, g, e, (hb.cell (p := ⟨b, j, none⟩) (lt_of_cell c0)).trans c0, hv.below hb⟩
theorem Giv.stood {w0 wr : World} {G : Nat} {R : Option Addr} {rc : Nat} {es : List Evt} {xs rl : List Value} (h : Giv w0 wr G es.length es (es.length + 34) (es.length + 34) xs rl (.slice R es.length rc)) : Stn wr G R es := by
  refine ⟨fun i hi => ?_, fun j hj hj2 => ?_, fun j hj => ?_⟩
  · obtain ⟨g, a1, a2, a3, a4, a5⟩ := h.dn i es[i] (by omega) (List.getElem?_eq_getElem hi)
    refine ⟨G, 0, some ⟨g, 0, none⟩, es[i].vals.length + 34, rfl, ?_, ?_, ?_, ValRow.front (t := _) (by unfold wideL at a5; exact a5)⟩
    · rw [Nat.zero_add]; exact h.cell a2
    · rw [Nat.zero_add]; exact h.cell a3
    · rw [Nat.zero_add]; exact h.cell a4
  · obtain ⟨a1, a2, a3⟩ := h.mks j hj (by omega)
    exact ⟨h.cell a1, h.cell a2, h.cell a3⟩
  · obtain ⟨g, a1, a2, a3, a4, a5⟩ := h.dn j es[j] (by omega) (List.getElem?_eq_getElem hj)
    rcases h.ro.2 with ⟨e, e0⟩ | ⟨b, cap, cur, e, _⟩
    · have := (List.getElem?_eq_some_iff.1 a1).1
      omega
    · simp only [Value.slice.injEq] at e
      obtain ⟨rfl, _, _⟩ := e
      have := h.ro.cells (g := b) rfl j _ a1
      rw [Addr.add_lit, Nat.zero_add] at this
      exact ⟨b, g, rfl, this, a5⟩
attribute [local go_sem ↓] run_front38
set_option maxRecDepth 100000 in
theorem stands_any (es : List Evt) (G : Nat) (R p : Option Addr) (rc c : Nat) (w : World) (hs : Stn w G R es) (hr : EvtRow w p es) (hin : ∀ e ∈ es, InE e) (hm : es.length * 48 ≤ 140737488351232) :
    Calls Tryd.prog 33 #[.slice (some ⟨G, 0, none⟩) (es.length + 34) (es.length + 34), .slice R es.length rc, .slice p es.length c] w fun e w' => e = .returned (.bool true) ∧ Below w.heap.size w w' := by
  have HLI : Hid (∀ wx, Below w.heap.size w wx → Calls Tryd.prog 21 #[.slice (some ⟨G, 0, none⟩) es.length (es.length + 34), .slice p es.length c] wx fun e w' => e = .returned (.bool true) ∧ Below wx.heap.size wx w') := fun wx hx => lists_true es _ p _ c wx (hs.row.below hx) (hr.below hx) (by unfold maxLen; omega) (fun e he => by have := (hin e he).2.1; unfold maxLen; omega)
  obtain ⟨n, hn⟩ : ∃ n, n = es.length := ⟨_, rfl⟩
  have HN := Lib.hid hn
  rw [← hn] at hm HLI ⊢
  have HR := Lib.hid hr
  have HIN := Lib.hid hin
  have HST := Lib.hid hs
  have hn64 : (n : Int) ≤ 9000000000000000000 := by omega
  have hn34 : n ≤ n + 34 := by omega
  have hn34' : (n : Int) ≤ (n : Int) + 34 := by omega
  clear hn hr hin hs
  go_enter Tryd.func33, Tryd.ntmps33
  go_wp2_with fail
  refine (HLI.out w (Below.refl _ _)).mono ?_
  rintro e w1 ⟨rfl, hb1⟩
  have HB1 := Lib.hid hb1
  clear hb1 HLI
  go_wp2
  go_loopw [8] (fun i wr => ∃ k : Nat, k ≤ n + 34 ∧ i = .int .i64 k ∧ Below w.heap.size w wr) (fun i _ => n + 34 - (intOf i).toNat)
  case atStart => exact ⟨0, Nat.zero_le _, rfl, HB1.out⟩
  case round =>
    obtain ⟨k, hk, rfl, hb⟩ := hrel
    have HB := Lib.hid hb
    clear hb
    by_cases hlt : k < n + 34
    · by_cases hkn : k < n
      · have hkl : k < es.length := by rw [← HN.out]; exact hkn
        obtain ⟨ty, tm, vl, b, o, q, d, hev, rfl, x0, x1, x2, hvr⟩ := (HR.out.below HB.out).nth hkl
        obtain ⟨rb, g, rfl, y0, hvw⟩ := (HST.out.below HB.out).rooms k hkl
        rw [← hev] at y0 hvw
        have hie : InE ⟨ty, tm, vl⟩ := by rw [hev]; exact HIN.out _ (List.getElem_mem hkl)
        have h40 := hie.2.1
        simp only at h40 y0 hvw
        have HTI : Hid (∀ wx, Below wr.heap.size wr wx → Calls Tryd.prog 28 #[.slice (some ⟨g, 0, none⟩) (vl.length + 34) (vl.length + 34), .agg #[.string ty, .int .i64 tm, .slice q vl.length d]] wx fun e w' => e = .returned (.bool true) ∧ Below wx.heap.size wx w') := fun wx hx => tight_any ty tm vl q (some ⟨g, 0, none⟩) d (vl.length + 34) (by omega) (by unfold maxLen; omega) wx (hvr.below hx) (hvw.below hx) h40
        obtain ⟨vn, hvn⟩ : ∃ vn, vn = vl.length := ⟨_, rfl⟩
        rw [← hvn] at HTI x2 y0
        have hl1 := lt_of_cell x0
        have hl2 := lt_of_cell y0
        have HS : Hid (∀ wx, Below wr.heap.size wr wx → Below wr.heap.size wr wx ∧ wx.cell? ⟨b, o + k * 3, none⟩ = some (.string ty) ∧ wx.cell? ⟨b, o + k * 3 + 1, none⟩ = some (.int .i64 tm) ∧ wx.cell? ⟨b, o + k * 3 + 2, none⟩ = some (.slice q vn d) ∧ wx.cell? ⟨rb, k, none⟩ = some (.slice (some ⟨g, 0, none⟩) (vn + 34) (vn + 34))) := fun wx hx =>
          ⟨hx, (hx.cell (p := ⟨b, o + k * 3, none⟩) hl1).trans x0, (hx.cell (p := ⟨b, o + k * 3 + 1, none⟩) hl1).trans x1, (hx.cell (p := ⟨b, o + k * 3 + 2, none⟩) hl1).trans x2, (hx.cell (p := ⟨rb, k, none⟩) hl2).trans y0⟩
        clear hev hvr hvw hie h40 hvn hkl
        go_wp2
        go_region_held3 (fun wx => Below wr.heap.size wr wx ∧ wx.cell? ⟨b, o + k * 3, none⟩ = some (.string ty) ∧ wx.cell? ⟨b, o + k * 3 + 1, none⟩ = some (.int .i64 tm) ∧ wx.cell? ⟨b, o + k * 3 + 2, none⟩ = some (.slice q vn d) ∧ wx.cell? ⟨rb, k, none⟩ = some (.slice (some ⟨g, 0, none⟩) (vn + 34) (vn + 34)))
          ((refine HS.out _ ?_; first | assumption | exact Below.refl _ _ | exact (Below.refl _ _).drew | exact held_below (by assumption)))
          (first | (go_at_call 28; refine (HTI.out _ (held_below (by assumption))).mono ?_; rintro e w2 ⟨rfl, hb2⟩; have hB2 : Below wr.heap.size wr w2 := held_on (by assumption) hb2))
        all_goals
          have HB2 : Hid (Below w.heap.size w w2) := HB.out.trans (hB2.mono HB.out.size)
          clear x0 x1 x2 y0
          go_wp2
          go_roundw
          case rel => exact ⟨k + 1, by omega, by go_num, HB2.out⟩
          case measure => simp [intOf]; omega
      · obtain ⟨c0, c1, c2⟩ := (HST.out.below HB.out).mks k (by rw [← HN.out]; omega) (by rw [← HN.out]; exact hlt)
        rw [← show n = _ from HN.out] at c1
        go_wp2_with fail
        go_region
        go_wp2_with fail
        rw [show (78 : Int) + (k : Int) - (n : Int) = 78 + ((k : Int) - (n : Int)) by omega]
        refine (events_true ⟨#[]⟩ (78 + ((k : Int) - (n : Int))) [] none none 0 0 wr.drew (fun i hi => absurd hi (Nat.not_lt_zero _)) (fun i hi => absurd hi (Nat.not_lt_zero _)) (Nat.zero_le _)).mono ?_
        rintro e w2 ⟨rfl, hb2⟩
        have HB2 : Hid (Below w.heap.size w w2) := (below_drewN' HB.out 1).trans (hb2.mono HB.out.size)
        clear hb2 c0 c1 c2
        go_wp2
        go_roundw
        case rel => exact ⟨k + 1, by omega, by go_num, HB2.out⟩
        case measure => simp [intOf]; omega
    · go_wp2
      go_ret
      exact ⟨rfl, HB.out⟩
end Go.Proofs.YtlinpkmfjkcoiaaDoor
