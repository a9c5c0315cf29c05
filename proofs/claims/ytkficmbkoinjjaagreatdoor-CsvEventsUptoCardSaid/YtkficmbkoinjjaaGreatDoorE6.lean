/- A row as an event: Event. -/
import Derived.Deep.RegionLaw
import Derived.Deep.AppendLies
import Derived.Deep.CutBlock
import Derived.Deep.DeepCutAuto
import Derived.Deep.CutRange
import Derived.Test.YtkficmbkoinjjaaGreatDoorE3
import Derived.Test.YtkficmbkoinjjaaGreatDoorE5
namespace Go.Proofs.YtkficmbkoinjjaaGreatDoor
open Go Go.RowKit
open V
set_option maxHeartbeats 4000000
set_option linter.unusedVariables false
set_option linter.unusedSimpArgs false
theorem infoVal : (Tryz.prog.info? 57).map (fun i => (i.zero, i.size, i.bytes)) = some (some (.agg #[.int .i64 0, .int .i64 0, .string ⟨#[]⟩, .bool false]), 4, 40) := by kernel_rfl
/-- the cells of values -/
def cells4 (vl : List V4) : List Value := vl.flatMap fun v => [.int .i64 v.k, .int .i64 v.n, .string v.s, .bool v.b]
theorem cells4_snoc (vl : List V4) (v : V4) : cells4 (vl ++ [v]) = cells4 vl ++ [.int .i64 v.k, .int .i64 v.n, .string v.s, .bool v.b] := by simp [cells4]
theorem cells4_len (vl : List V4) : (cells4 vl).length = vl.length * 4 := by
  induction vl with
  | nil => rfl
  | cons v t ih => simp [cells4] at ih ⊢; omega
theorem cells4_at : ∀ {vl : List V4} {i : Nat} (h : i < vl.length), (cells4 vl)[i * 4]? = some (.int .i64 vl[i].k) ∧ (cells4 vl)[i * 4 + 1]? = some (.int .i64 vl[i].n) ∧ (cells4 vl)[i * 4 + 2]? = some (.string vl[i].s) ∧ (cells4 vl)[i * 4 + 3]? = some (.bool vl[i].b)
  | v :: t, 0, _ => by simp [cells4]
  | v :: t, i + 1, h => by
    have ih := cells4_at (vl := t) (i := i) (by simpa using h)
    have e : cells4 (v :: t) = .int .i64 v.k :: .int .i64 v.n :: .string v.s :: .bool v.b :: cells4 t := by simp [cells4]
    rw [e]
    have e0 : (i + 1) * 4 = i * 4 + 4 := by omega
    rw [e0]
    simpa using ih
theorem own_valRow {w : World} {B : Nat} {p : Option Addr} {n c : Nat} {vl : List V4} (h : w.ownsRow B 57 4 (.slice p n c) n (cells4 vl)) : n = vl.length ∧ ValRow w p vl := by
  have hl : n = vl.length := by have := h.1; rw [cells4_len] at this; omega
  refine ⟨hl, fun i hi => ?_⟩
  rcases h.2 with ⟨e, e0⟩ | ⟨g, cap, cur, e, _⟩
  · omega
  · simp only [Value.slice.injEq] at e
    obtain ⟨rfl, _, rfl⟩ := e
    obtain ⟨h0, h1, h2, h3⟩ := cells4_at hi
    have x := fun j u hu => World.ownsRow.cells (g := g) h rfl j u hu
    have x0 := x _ _ h0
    have x1 := x _ _ h1
    have x2 := x _ _ h2
    have x3 := x _ _ h3
    rw [Addr.add_lit] at x0 x1 x2 x3
    exact ⟨g, 0, rfl, x0, x1, x2, x3⟩
/-- what is wrong with a row by a type's kinds, as a number -/
def EvE (kd : List Int) (C : List Cell) (E : Int) : Prop :=
  (C.length ≠ kd.length + 1 ∧ E = 22) ∨ (C.length = kd.length + 1 ∧ (∀ tm, TmOk tm → C[0]? ≠ some (cellV (numV tm))) ∧ E = 23) ∨
  (C.length = kd.length + 1 ∧ (∃ tm, TmOk tm ∧ C[0]? = some (cellV (numV tm))) ∧ (∃ (j : Nat) (x : Int), kd[j]? = some x ∧ (x < 1 ∨ 3 < x)) ∧ E = 10) ∨
  (C.length = kd.length + 1 ∧ (∃ tm, TmOk tm ∧ C[0]? = some (cellV (numV tm))) ∧ (∀ (j : Nat) (x : Int), kd[j]? = some x → 1 ≤ x ∧ x ≤ 3) ∧ E = 12)
theorem EvE.same {kd : List Int} {C : List Cell} {E E' : Int} (h : EvE kd C E) (h' : EvE kd C E') : E = E' := by
  rcases h with ⟨a, rfl⟩ | ⟨a, b, rfl⟩ | ⟨a, ⟨tm, b, b2⟩, ⟨j, x, c, c2⟩, rfl⟩ | ⟨a, ⟨tm, b, b2⟩, c, rfl⟩ <;>
    rcases h' with ⟨a', rfl⟩ | ⟨a', b', rfl⟩ | ⟨a', ⟨tm', b', b2'⟩, ⟨j', x', c', c2'⟩, rfl⟩ | ⟨a', ⟨tm', b', b2'⟩, c', rfl⟩
  all_goals first
    | rfl
    | exact absurd a' a
    | exact absurd a a'
    | exact absurd b2' (b _ b')
    | exact absurd b2 (b' _ b)
    | (have := c' _ _ c; omega)
    | (have := c _ _ c'; omega)
/-- a row is read as an event of the type, or there is none -/
def EventIs (w : World) (nm : ByteArray) (kd : List Int) (C : List Cell) (e : Ending) (w' : World) : Prop :=
  Below w.heap.size w w' ∧ ((∃ (tm : Int) (vl : List V4) (p : Option Addr) (c : Nat), e = .returned (.tuple #[.agg #[.string nm, .int .i64 tm, .slice p vl.length c], .int .i64 0]) ∧ ValRow w' p vl ∧ (∀ a, p = some a → w.heap.size ≤ a.block) ∧ Fits kd tm vl ∧ rowC tm vl = C) ∨
    (∃ E : Int, E ≠ 0 ∧ e = .returned (.tuple #[.agg #[.string ⟨#[]⟩, .int .i64 0, .slice none 0 0], .int .i64 E]) ∧ (∀ tm vl, Fits kd tm vl → rowC tm vl ≠ C) ∧ EvE kd C E))
theorem EventIs.bad {w : World} {nm : ByteArray} {kd : List Int} {C : List Cell} {w' : World} (hb : Below w.heap.size w w') {E : Int} (h0 : E ≠ 0) (h : ∀ tm vl, Fits kd tm vl → rowC tm vl ≠ C) (hE : EvE kd C E) : EventIs w nm kd C (.returned (.tuple #[.agg #[.string ⟨#[]⟩, .int .i64 0, .slice none 0 0], .int .i64 E])) w' := ⟨hb, .inr ⟨E, h0, rfl, h, hE⟩⟩
theorem ones4 (k n : Int) (s : ByteArray) (b : Bool) : ∀ u ∈ [Value.int .i64 k, .int .i64 n, .string s, .bool b], u.oneCell' = true := by
  intro u hu
  simp only [List.mem_cons, List.not_mem_nil, or_false] at hu
  rcases hu with rfl | rfl | rfl | rfl <;> rfl
theorem own_not {w : World} {B : Nat} {v : Value} {n : Nat} {xs : List Value} (h : w.ownsRow B 57 4 v n xs) {b : Nat} (hb : b < B) : some b ≠ v.ownBlock := by
  intro e
  rcases h.2 with ⟨rfl, _⟩ | ⟨g, cap, cur, rfl, hgB, _⟩
  · cases e
  · simp only [Value.ownBlock, Option.some.injEq] at e
    omega
/-- a block of an event's three cells that may be written -/
structure Three (w : World) (b : Nat) (s : ByteArray) (t : Int) (v : Value) : Prop where
  c0 : w.cell? ⟨b, 0, none⟩ = some (.string s)
  c1 : w.cell? ⟨b, 1, none⟩ = some (.int .i64 t)
  c2 : w.cell? ⟨b, 2, none⟩ = some v
  z0 : w.frozen? ⟨b, 0, none⟩ = false
  z1 : w.frozen? ⟨b, 1, none⟩ = false
  z2 : w.frozen? ⟨b, 2, none⟩ = false
theorem Three.lt {w : World} {b : Nat} {s : ByteArray} {t : Int} {v : Value} (h : Three w b s t v) : b < w.heap.size := lt_of_cell h.c0
theorem Three.new (w : World) (s : ByteArray) (t : Int) (p : Option Addr) (n c : Nat) : Three (w.alloc (.cells #[.string s, .int .i64 t, .slice p n c] 41)) w.heap.size s t (.slice p n c) := by
  refine ⟨?_, ?_, ?_, ?_, ?_, ?_⟩ <;> simp [go_sem]
theorem Three.below {w w' : World} {b : Nat} {s : ByteArray} {t : Int} {v : Value} (h : Three w b s t v) (hb : Below w.heap.size w w') : Three w' b s t v := by
  have hl := lt_of_cell h.c0
  exact ⟨(hb.cell (p := ⟨b, 0, none⟩) hl).trans h.c0, (hb.cell (p := ⟨b, 1, none⟩) hl).trans h.c1, (hb.cell (p := ⟨b, 2, none⟩) hl).trans h.c2,
    (hb.frozen (p := ⟨b, 0, none⟩) hl).trans h.z0, (hb.frozen (p := ⟨b, 1, none⟩) hl).trans h.z1, (hb.frozen (p := ⟨b, 2, none⟩) hl).trans h.z2⟩
theorem Three.grown {w w' : World} {b : Nat} {s : ByteArray} {t : Int} {v : Value} (h : Three w b s t v) {row : Option Nat} (hg : w.grownBy w' row) (hr : some b ≠ row) : Three w' b s t v := by
  have e := hg.block b (lt_of_cell h.c0) hr
  exact ⟨(World.cell?_of_block (a := ⟨b, 0, none⟩) e).trans h.c0, (World.cell?_of_block (a := ⟨b, 1, none⟩) e).trans h.c1, (World.cell?_of_block (a := ⟨b, 2, none⟩) e).trans h.c2, (World.frozen?_of_block (a := ⟨b, 0, none⟩) e).trans h.z0, (World.frozen?_of_block (a := ⟨b, 1, none⟩) e).trans h.z1, (World.frozen?_of_block (a := ⟨b, 2, none⟩) e).trans h.z2⟩
theorem Three.vs {w : World} {b : Nat} {s : ByteArray} {t : Int} {v : Value} (h : Three w b s t v) (v' : Value) : Three (w.setCell ⟨b, 2, none⟩ v') b s t v' := by
  obtain ⟨c0, c1, c2, z0, z1, z2⟩ := h
  refine ⟨?_, ?_, ?_, ?_, ?_, ?_⟩ <;> simp [go_sem, c0, c1, c2, z0, z1, z2]
theorem Three.all {w : World} {b : Nat} {s : ByteArray} {t : Int} {v : Value} (h : Three w b s t v) (s' : ByteArray) (t' : Int) (v' : Value) : Three (((w.setCell ⟨b, 0, none⟩ (.string s')).setCell ⟨b, 1, none⟩ (.int .i64 t')).setCell ⟨b, 2, none⟩ v') b s' t' v' := by
  obtain ⟨c0, c1, c2, z0, z1, z2⟩ := h
  refine ⟨?_, ?_, ?_, ?_, ?_, ?_⟩ <;> simp [go_sem, c0, c1, c2, z0, z1, z2]
theorem below_three {B : Nat} {a w : World} (h : Below B a w) {b : Nat} (hb : B ≤ b) (u v x : Value) : Below B a (((w.setCell ⟨b, 0, none⟩ u).setCell ⟨b, 1, none⟩ v).setCell ⟨b, 2, none⟩ x) := ((h.setCell (p := ⟨b, 0, none⟩) hb _).setCell (p := ⟨b, 1, none⟩) hb _).setCell (p := ⟨b, 2, none⟩) hb _
set_option maxRecDepth 100000 in
theorem event_any (nm : ByteArray) (p : Option Addr) (l : List (ByteArray × Int)) (c : Nat) (q : Option Addr) (C : List Cell) (d : Nat) (w : World) (hv : Vv w) (hA : AtRow w p l) (hC : CellsIn w q C) (hl : l.length ≤ 100000000) (hm : C.length ≤ 100000000) :
    Calls Tryz.prog 11 #[.agg #[.string nm, .slice p l.length c], .slice q C.length d] w (EventIs w nm (kdL l) C) := by
  obtain ⟨i0, hi, hz0, hz1, hz2⟩ := info_parts infoVal
  obtain ⟨n, hnn⟩ : ∃ n, n = l.length := ⟨_, rfl⟩
  obtain ⟨m, hmm⟩ : ∃ m, m = C.length := ⟨_, rfl⟩
  have HN := Lib.hid hnn
  have HM := Lib.hid hmm
  have HNE : Hid (m ≠ n + 1 → ∀ tm vl, Fits (kdL l) tm vl → rowC tm vl ≠ C) := fun h tm vl hf e => h (by
    have h1 := congrArg List.length e
    have h2 := hf.len
    rw [rowC_len] at h1
    have h3 : (kdL l).length = l.length := by simp [kdL]
    omega)
  obtain ⟨w1, hw1⟩ : ∃ x, x = (w.alloc (Obj.cells #[.string nm, .slice p l.length c] 25)).alloc (Obj.cells #[.string ⟨#[]⟩, .int .i64 0, .slice none 0 0] 41) := ⟨_, rfl⟩
  have hb1 : Below w.heap.size w w1 := by rw [hw1]; exact ((Below.refl _ _).alloc (Nat.le_refl _) _).alloc (by simp) _
  have a0 : w1.cell? ⟨w.heap.size, 0, none⟩ = some (.string nm) := by rw [hw1]; simp [go_sem]
  have a1 : w1.cell? ⟨w.heap.size, 1, none⟩ = some (.slice p n c) := by rw [hw1, hnn]; simp [go_sem]
  have T1 : Hid (Three w1 (w.heap.size + 1) ⟨#[]⟩ 0 (.slice none 0 0)) := by
    have := Three.new (w.alloc (Obj.cells #[.string nm, .slice p l.length c] 25)) ⟨#[]⟩ 0 none 0 0
    simp only [World.size_alloc] at this
    rw [hw1]
    exact this
  have hz1' : w.heap.size < w1.heap.size := by rw [hw1]; simp; omega
  have HV0 := Lib.hid hv
  have HA0 := Lib.hid hA
  have HC0 := Lib.hid hC
  have HB1 := Lib.hid hb1
  rw [← hnn] at hw1 hl ⊢
  rw [← hmm] at hm ⊢
  have HW2 := Lib.hid hw1
  obtain ⟨g, hg⟩ : ∃ g, g = w.heap.size := ⟨_, rfl⟩
  have HG := Lib.hid hg
  rw [← hg] at a0 a1 T1 hz1'
  have KG : Hid (w.heap.size ≤ g + 1) := by show _ ≤ _; omega
  clear hv hA hC hnn hmm hb1 hw1
  go_enter Tryz.func11, Tryz.ntmps11
  go_upto_region 1 with fail
  rw [← HW2.out, ← HG.out]
  clear hg
  by_cases hmn : m = n + 1
  case neg =>
    have dm : ((m : Int) != (n : Int) + 1) = true := by simp; omega
    have HH := Lib.hid (HNE.out hmn)
    have HXE : Hid (EvE (kdL l) C 22) := .inl ⟨by rw [← HM.out]; simpa [kdL, ← HN.out] using hmn, rfl⟩
    have TT := Lib.hid (T1.out.all ⟨#[]⟩ 0 (.slice none 0 0))
    obtain ⟨r0, r1, r2, z0, z1, z2⟩ := T1.out
    clear hmn
    go_wp2
    exact bodyPost_ret (v := .tuple #[.agg #[.string ⟨#[]⟩, .int .i64 0, .slice none 0 0], .int .i64 22]) (by simp [results, Tryz.results11, go_sem, r0, r1, r2]) rfl (EventIs.bad (below_three HB1.out KG.out _ _ _) (by decide) HH.out HXE.out)
  case pos =>
  subst hmn
  have dm : (((n + 1 : Nat) : Int) != (n : Int) + 1) = false := by simp
  obtain ⟨c0, b, o, hc0, rfl, x0⟩ := (HC0.out.below HB1.out).nth (k := 0) (by rw [← HM.out]; omega)
  rw [Nat.add_zero] at x0
  have zb := lt_of_cell x0
  have HC00 := Lib.hid hc0
  have HV1 := Lib.hid (HV0.out.below HB1.out)
  have HFST : Hid (∀ tm vl, Fits (kdL l) tm vl → rowC tm vl = C → cellV (numV tm) = c0) := fun tm vl _ e => by
    have h1 := HC00.out
    rw [← e] at h1
    simpa [rowC] using h1
  have hrd := readCell_any 1 (by omega) (by omega) ⟨c0.toArray⟩ w1 HV1.out
  clear hc0 HNE
  go_wp2_with fail
  refine hrd.mono ?_
  rintro e w2 ⟨K, N, S, T, ok, rfl, hb2, hrc⟩
  have HRC := Lib.hid hrc
  obtain ⟨g6, hg6⟩ : ∃ g6, g6 = w2.heap.size := ⟨_, rfl⟩
  obtain ⟨w3, hw3⟩ : ∃ x, x = w2.alloc (Obj.cells #[.int .i64 K, .int .i64 N, .string S, .bool T] 57) := ⟨_, rfl⟩
  have hb3 : Below w1.heap.size w1 w3 := by rw [hw3]; exact hb2.alloc hb2.size _
  have HB3 : Hid (Below w.heap.size w w3) := HB1.out.trans (hb3.mono HB1.out.size)
  have T3 := Lib.hid (T1.out.below (hb3.mono (Nat.le_refl _)))
  have y1 : w3.cell? ⟨g6, 1, none⟩ = some (.int .i64 N) := by rw [hw3, hg6]; simp [go_sem]
  have b0 := (hb3.cell (p := ⟨g, 0, none⟩) hz1').trans a0
  have b1 := (hb3.cell (p := ⟨g, 1, none⟩) hz1').trans a1
  have zg3 : g < w3.heap.size := Nat.lt_of_lt_of_le hz1' hb3.size
  have zg6 : g6 < w3.heap.size := by rw [hw3, hg6]; simp
  clear a0 a1 hz1' hrd hrc zb x0
  cases ok
  case false =>
    have HH : Hid (∀ tm vl, Fits (kdL l) tm vl → rowC tm vl ≠ C) := fun tm vl hf e => by
      rcases HRC.out with ⟨h, _⟩ | ⟨_, h⟩
      · cases h
      · exact h (numV tm) (numV_ok hf.1.i64) rfl (by rw [HFST.out tm vl hf e])
    have HXE : Hid (EvE (kdL l) C 23) := .inr (.inl ⟨by rw [← HM.out]; simp [kdL, ← HN.out], fun tm ht e => by
      rcases HRC.out with ⟨h, _⟩ | ⟨_, h⟩
      · cases h
      · rw [HC00.out] at e
        exact h (numV tm) (numV_ok ht.i64) rfl (by simpa using Option.some.inj e), rfl⟩)
    obtain ⟨r0, r1, r2, z0, z1, z2⟩ := T3.out
    go_upto_region 4 with fail
    rw [← hw3, ← hg6]
    clear hw3 hg6
    go_wp2
    exact bodyPost_ret (v := .tuple #[.agg #[.string ⟨#[]⟩, .int .i64 0, .slice none 0 0], .int .i64 23]) (by simp [results, Tryz.results11, go_sem, r0, r1, r2]) rfl (EventIs.bad (below_three HB3.out KG.out _ _ _) (by decide) HH.out HXE.out)
  case true =>
  have HR2 : Hid (K = 1 ∧ Ok4 ⟨K, N, S, T⟩ ∧ cellV ⟨K, N, S, T⟩ = c0) := by
    rcases HRC.out with ⟨_, h1, h2, h3⟩ | ⟨h, _⟩
    · exact ⟨h1, h2, by simpa using h3⟩
    · cases h
  have HR3 : Hid (cellV (numV N) = c0 ∧ I64 N) := by
    obtain ⟨h1, h2, h3⟩ := HR2.out
    subst h1
    have e1 := valid_1' h2.1
    simp only at e1
    rw [e1.1, e1.2] at h3
    exact ⟨h3, h2.2⟩
  go_upto_region 4 with fail
  rw [← hw3, ← hg6]
  clear hw3 hg6 HRC
  go_wp2_with fail
  refine (isTime_any N w3).mono ?_
  rintro e w4 ⟨bt, rfl, hb4, ht⟩
  have HT := Lib.hid ht
  have HB4 : Hid (Below w.heap.size w w4) := HB3.out.trans (hb4.mono HB3.out.size)
  have T4 := Lib.hid (T3.out.below hb4)
  replace b0 := (hb4.cell (p := ⟨g, 0, none⟩) zg3).trans b0
  replace b1 := (hb4.cell (p := ⟨g, 1, none⟩) zg3).trans b1
  replace y1 := (hb4.cell (p := ⟨g6, 1, none⟩) zg6).trans y1
  replace zg3 : g < w4.heap.size := Nat.lt_of_lt_of_le zg3 hb4.size
  replace zg6 : g6 < w4.heap.size := Nat.lt_of_lt_of_le zg6 hb4.size
  clear ht hb4
  cases bt
  case false =>
    have HH : Hid (∀ tm vl, Fits (kdL l) tm vl → rowC tm vl ≠ C) := fun tm vl hf e => by
      have h1 := cellV_inj (numV_ok hf.1.i64) (numV_ok HR3.out.2) rfl ((HFST.out tm vl hf e).trans HR3.out.1.symm)
      have h2 : tm = N := (V4.mk.inj h1).2.1
      have h3 := HT.out.2 (by have := hf.1; unfold TmOk at this; omega)
      cases h3
    have HXE : Hid (EvE (kdL l) C 23) := .inr (.inl ⟨by rw [← HM.out]; simp [kdL, ← HN.out], fun tm ht e => (by
      rw [HC00.out] at e
      have h1 := cellV_inj (numV_ok ht.i64) (numV_ok HR3.out.2) rfl ((Option.some.inj e).symm.trans HR3.out.1.symm)
      have h2 : tm = N := (V4.mk.inj h1).2.1
      have h3 := HT.out.2 (by unfold TmOk at ht; omega)
      cases h3), rfl⟩)
    obtain ⟨r0, r1, r2, z0, z1, z2⟩ := T4.out
    go_wp2
    exact bodyPost_ret (v := .tuple #[.agg #[.string ⟨#[]⟩, .int .i64 0, .slice none 0 0], .int .i64 23]) (by simp [results, Tryz.results11, go_sem, r0, r1, r2]) rfl (EventIs.bad (below_three HB4.out KG.out _ _ _) (by decide) HH.out HXE.out)
  case true =>
  have HLEN : Hid (C.length = (kdL l).length + 1) := by show _ = _; rw [← HM.out]; simp [kdL, ← HN.out]
  have HTM : Hid (TmOk N) := HT.out.1 (by first | rfl | trivial)
  have HZ4 : Hid (w.heap.size ≤ w4.heap.size) := HB4.out.size
  go_wp2
  go_loopw [44] (fun iv wr => ∃ k : Nat, k ≤ n ∧ iv = .int .i64 k ∧ Below w4.heap.size w4 wr ∧ ∀ j x, j < k → (kdL l)[j]? = some x → 1 ≤ x ∧ x ≤ 3) (fun iv _ => n - (intOf iv).toNat)
  case atStart => exact ⟨0, Nat.zero_le _, rfl, by repeat (first | exact Below.refl _ _ | apply Below.drew), fun j x hj => absurd hj (Nat.not_lt_zero _)⟩
  case round =>
    obtain ⟨k, hk, rfl, hbr, hkd⟩ := hrel
    have HBR := Lib.hid hbr
    have HKD := Lib.hid hkd
    have HBW : Hid (Below w.heap.size w wr) := HB4.out.trans (hbr.mono HB4.out.size)
    by_cases hlt : k < n
    · obtain ⟨an, ak, b', o', hak, rfl, e0, e1⟩ := (HA0.out.below HBW.out).nth (k := k) (by rw [← HN.out]; exact hlt)
      have HAK := Lib.hid (kdL_at hak)
      have T5 := Lib.hid (T4.out.below hbr)
      have HZR : Hid (w.heap.size ≤ wr.heap.size ∧ w4.heap.size ≤ wr.heap.size) := ⟨HBW.out.size, hbr.size⟩
      have y2 := lt_of_cell e0
      clear hbr hkd hak
      by_cases hin : 1 ≤ ak ∧ ak ≤ 3
      · have hc : ak = 1 ∨ ak = 2 ∨ ak = 3 := by omega
        clear hin
        rcases hc with rfl | rfl | rfl
        · go_wp2_with fail
          refine (formOf_1 _).mono ?_
          rintro e w6 ⟨rfl, hb6⟩
          have HB6 : Hid (Below w4.heap.size w4 w6) := (HBR.out.alloc HZR.out.2 _).trans (hb6.mono (by have := HZR.out.2; simp; omega))
          clear hb6 e0 e1
          go_wp2
          go_roundw
          case rel =>
            refine ⟨k + 1, by omega, by go_num, ?_, fun j x hj hx => ?_⟩
            · repeat (first | exact HB6.out | apply Below.drew | refine Below.alloc ?_ HB6.out.size _)
            · by_cases hjk : j = k
              · subst hjk; have h := HAK.out.symm.trans hx; simp at h; omega
              · exact HKD.out j x (by omega) hx
          case measure => simp [intOf]; omega
        · go_wp2_with fail
          refine (formOf_2 _).mono ?_
          rintro e w6 ⟨rfl, hb6⟩
          have HB6 : Hid (Below w4.heap.size w4 w6) := (HBR.out.alloc HZR.out.2 _).trans (hb6.mono (by have := HZR.out.2; simp; omega))
          clear hb6 e0 e1
          go_wp2
          go_roundw
          case rel =>
            refine ⟨k + 1, by omega, by go_num, ?_, fun j x hj hx => ?_⟩
            · repeat (first | exact HB6.out | apply Below.drew | refine Below.alloc ?_ HB6.out.size _)
            · by_cases hjk : j = k
              · subst hjk; have h := HAK.out.symm.trans hx; simp at h; omega
              · exact HKD.out j x (by omega) hx
          case measure => simp [intOf]; omega
        · go_wp2_with fail
          refine (formOf_3 _).mono ?_
          rintro e w6 ⟨rfl, hb6⟩
          have HB6 : Hid (Below w4.heap.size w4 w6) := (HBR.out.alloc HZR.out.2 _).trans (hb6.mono (by have := HZR.out.2; simp; omega))
          clear hb6 e0 e1
          go_wp2
          go_roundw
          case rel =>
            refine ⟨k + 1, by omega, by go_num, ?_, fun j x hj hx => ?_⟩
            · repeat (first | exact HB6.out | apply Below.drew | refine Below.alloc ?_ HB6.out.size _)
            · by_cases hjk : j = k
              · subst hjk; have h := HAK.out.symm.trans hx; simp at h; omega
              · exact HKD.out j x (by omega) hx
          case measure => simp [intOf]; omega
      · have hout : ak < 1 ∨ 3 < ak := by omega
        have HH : Hid (∀ tm vl, Fits (kdL l) tm vl → rowC tm vl ≠ C) := fun tm vl hf e => by
          have h1 := HAK.out
          rw [← hf.2.1, List.getElem?_map] at h1
          obtain ⟨v, hv, hvk⟩ := Option.map_eq_some_iff.1 h1
          have := (hf.2.2 v (List.mem_of_getElem? hv)).kind
          omega
        have HXE : Hid (EvE (kdL l) C 10) := .inr (.inr (.inl ⟨HLEN.out, ⟨N, HTM.out, by rw [HC00.out, HR3.out.1]⟩, ⟨k, ak, HAK.out, hout⟩, rfl⟩))
        clear hin
        go_wp2_with fail
        refine (formOf_out ak hout _).mono ?_
        rintro e w6 ⟨rfl, hb6⟩
        have hb6' : Below wr.heap.size wr w6 := ((Below.refl _ _).alloc (Nat.le_refl _) _).trans (hb6.mono (by simp))
        have HB6 : Hid (Below w.heap.size w w6) := HBW.out.trans (hb6'.mono HZR.out.1)
        have T6 := Lib.hid (T5.out.below hb6')
        obtain ⟨r0, r1, r2, z0, z1, z2⟩ := T6.out
        have zl := T6.out.lt
        have hne : ¬ (g + 1 = w6.heap.size) := by omega
        have hne2 : ¬ (w6.heap.size = g + 1) := by omega
        have TX := (T6.out.all ⟨#[]⟩ 0 (.slice none 0 0)).below ((Below.refl _ _).alloc (Nat.le_refl _) (Obj.cells #[.nilFunc, .nilFunc] 83))
        obtain ⟨s0, s1, s2, _, _, _⟩ := TX
        clear hb6 hb6' e0 e1 hout
        go_wp2
        exact bodyPost_ret (v := .tuple #[.agg #[.string ⟨#[]⟩, .int .i64 0, .slice none 0 0], .int .i64 10]) (by simp [results, Tryz.results11, go_sem, s0, s1, s2]) rfl (EventIs.bad ((below_three HB6.out KG.out _ _ _).alloc (by have := HB6.out.size; simp [World.setCell]; omega) _) (by decide) HH.out HXE.out)
    · have hkn : n = k := by omega
      subst hkn
      have c0w := (hbr.cell (p := ⟨g, 0, none⟩) zg3).trans b0
      have c1w := (hbr.cell (p := ⟨g, 1, none⟩) zg3).trans b1
      have c6w := (hbr.cell (p := ⟨g6, 1, none⟩) zg6).trans y1
      have T5 := Lib.hid (T4.out.below hbr)
      have zgr : g < wr.heap.size := Nat.lt_of_lt_of_le zg3 hbr.size
      have zg1r := T5.out.lt
      have HZR : Hid (w.heap.size ≤ wr.heap.size) := HBW.out.size
      clear hbr hkd b0 b1 y1 zg3 zg6 hlt hk
      go_upto_region 14 with fail
      have TE := Three.new wr nm N none 0 0
      obtain ⟨w6, hw6⟩ : ∃ x, x = wr.alloc (Obj.cells #[.string nm, .int .i64 N, .slice none 0 0] 41) := ⟨_, rfl⟩
      obtain ⟨E, hE⟩ : ∃ E, E = wr.heap.size := ⟨_, rfl⟩
      have hal : Below wr.heap.size wr w6 := by rw [hw6]; exact (Below.refl _ _).alloc (Nat.le_refl _) _
      rw [← hw6, ← hE] at TE
      have HTE := Lib.hid TE
      have HAL := Lib.hid hal
      have HEE := Lib.hid hE
      have c1v := (hal.cell (p := ⟨g, 1, none⟩) zgr).trans c1w
      have HZ6 : Hid (wr.heap.size ≤ w6.heap.size) := hal.size
      rw [← hw6, ← hE]
      clear TE hw6 hal hE c0w c1w c6w
      obtain ⟨wq, ewq⟩ : ∃ x, x = wr := ⟨_, rfl⟩
      subst ewq
      go_wp2
      go_loopw [66] (fun iv wx => ∃ (k : Nat) (done : List V4) (vp : Option Addr) (vc : Nat), k ≤ n ∧ iv = .int .i64 k ∧ done.length = k ∧ Below wq.heap.size wq wx ∧ Three wx E nm N (.slice vp k vc) ∧ wx.ownsRow (E + 1) 57 4 (.slice vp k vc) k (cells4 done) ∧ done.map (·.k) = (kdL l).take k ∧ (∀ v ∈ done, Ok4 v) ∧ rowC N done = C.take (k + 1)) (fun iv _ => n - (intOf iv).toNat)
      case atStart => 
        refine ⟨0, [], none, 0, Nat.zero_le _, rfl, rfl, HAL.out, HTE.out, World.ownsRow_nil _ _ _ _, by simp, by simp, ?_⟩
        have h1 := HC00.out
        cases C with
        | nil => cases h1
        | cons x t => simp at h1; subst h1; simp [rowC, HR3.out.1]
      case round =>
        clear c1v T1
        obtain ⟨k, done, vp, vc, hk, rfl, hdl, hbx, htx, hox, hmp, hokd, hrw⟩ := hrel
        have htxl := htx.lt
        have HBX := Lib.hid hbx
        have HTX := Lib.hid htx
        have HOX := Lib.hid hox
        have HDN := Lib.hid (And.intro hdl (And.intro hmp (And.intro hokd hrw)))
        have HBW2 : Hid (Below w.heap.size w wr) := HBW.out.trans (hbx.mono HZR.out)
        have T7 := Lib.hid (T5.out.below hbx)
        have HZX : Hid (wq.heap.size ≤ wr.heap.size ∧ w.heap.size ≤ wr.heap.size) := ⟨hbx.size, HBW2.out.size⟩
        by_cases hlt : k < n
        · obtain ⟨an, ak, b', o', hak, rfl, e0, e1⟩ := (HA0.out.below HBW2.out).nth (k := k) (by rw [← HN.out]; exact hlt)
          obtain ⟨ck, b2, o2, hck, hbb, x1⟩ := (HC0.out.below HBW2.out).nth (k := k + 1) (by rw [← HM.out]; omega)
          simp only [Option.some.injEq, Addr.mk.injEq, and_true] at hbb
          obtain ⟨rfl, rfl⟩ := hbb
          have HAK := Lib.hid (kdL_at hak)
          have HCK := Lib.hid hck
          have hrange := HKD.out k ak hlt (kdL_at hak)
          have y2 := lt_of_cell e0
          have y3 := lt_of_cell x1
          have HRD : Hid (∀ wy, Below wr.heap.size wr wy → Calls Tryz.prog 31 #[.int .i64 ak, .string ⟨ck.toArray⟩] wy (ReadC wy ak ck)) := fun wy hy => by
            have := readCell_any ak hrange.1 hrange.2 ⟨ck.toArray⟩ wy (HV0.out.below (HBW2.out.trans (hy.mono HZX.out.2)))
            simpa using this
          clear hak hck hdl hbx hox hmp hokd hrw htx hrange
          go_upto_region 17 with fail
          obtain ⟨w7, hw7⟩ : ∃ x, x = wr.alloc (Obj.cells #[.string an, .int .i64 ak] 52) := ⟨_, rfl⟩
          obtain ⟨g7, hg7⟩ : ∃ g7, g7 = wr.heap.size := ⟨_, rfl⟩
          have hal : Below wr.heap.size wr w7 := by rw [hw7]; exact (Below.refl _ _).alloc (Nat.le_refl _) _
          have k0 : w7.cell? ⟨g7, 1, none⟩ = some (.int .i64 ak) := by rw [hw7, hg7]; simp [go_sem]
          have k1 := (hal.cell (p := ⟨b, o + (k + 1), none⟩) y3).trans x1
          have HRD7 : Hid (∀ wy, Below w7.heap.size w7 wy → Calls Tryz.prog 31 #[.int .i64 ak, .string ⟨ck.toArray⟩] wy (ReadC wy ak ck)) := fun wy hy => HRD.out wy (hal.trans (hy.mono hal.size))
          have HAL7 := Lib.hid hal
          rw [← hw7, ← hg7]
          clear hw7 hg7 hal e0 e1 x1 y2 y3 HRD
          have zb7 := lt_of_cell k1
          have zg7 := lt_of_cell k0
          have nb7 : ¬ (b = w7.heap.size) := by omega
          have ng7 : ¬ (g7 = w7.heap.size) := by omega
          have nb8 : ¬ (w7.heap.size = b) := by omega
          have ng8 : ¬ (w7.heap.size = g7) := by omega
          have kw : IntKind.i64.wrap ((k : Int) + 1) = (k : Int) + 1 := IntWalk.i64_in _ (by omega)
          have kn : ((k : Int) + 1).toNat = k + 1 := by omega
          have kk : (k : Int) < (n : Int) := by omega
          have kk0 : (0 : Int) ≤ (k : Int) + 1 := by omega
          have kk1 : (k : Int) + 1 < (n : Int) + 1 := by omega
          go_cut [15, 16] from 71 to 81 (fun s15 s16 wx => ∃ (g15 : Nat) (K2 N2 : Int) (S2 : ByteArray) (T2 ok : Bool), s15 = .pointer (some ⟨g15, 0, none⟩) ∧ s16 = .bool ok ∧ Below w7.heap.size w7 wx ∧ wx.cell? ⟨g15, 0, none⟩ = some (.int .i64 K2) ∧ wx.cell? ⟨g15, 1, none⟩ = some (.int .i64 N2) ∧ wx.cell? ⟨g15, 2, none⟩ = some (.string S2) ∧ wx.cell? ⟨g15, 3, none⟩ = some (.bool T2) ∧
              ((ok = true ∧ K2 = ak ∧ Ok4 ⟨K2, N2, S2, T2⟩ ∧ cellV ⟨K2, N2, S2, T2⟩ = ck) ∨ (ok = false ∧ ∀ v, Ok4 v → v.k = ak → ck ≠ cellV v)))
          case first =>
            go_region_law (first | (go_simp; go_at_call 31; refine (HRD7.out _ (by repeat (first | assumption | exact Below.refl _ _ | apply Below.drew | refine Below.alloc ?_ (by first | exact Nat.le_refl _ | simp) _))).mono ?_; rintro e w8 ⟨K2, N2, S2, T2, ok, rfl, hb8, hrc⟩; obtain ⟨hc8, hf8⟩ := bcell hb8))
            all_goals
              have hsz := hb8.size
              simp at hsz
              go_wp2_with fail
              go_meet
              clear HBX HTX HOX HDN HBW2 T7 HAK HCK HV0 HA0 HC0 HB1 HB3 HB4 T3 T4 T5 HFST HRD7 HKD
              try (refine ⟨w8.heap.size, K2, N2, S2, T2, ok, rfl, rfl, ((Below.refl _ _).drew.trans hb8).alloc hsz _, ?_, ?_, ?_, ?_, hrc⟩ <;> simp [go_sem])
            all_goals
              have q0 := hc8 w7.heap.size 0 (by simp)
              have q1 := hc8 w7.heap.size 1 (by simp)
              have q2 := hc8 w7.heap.size 2 (by simp)
              have q3 := hc8 w7.heap.size 3 (by simp)
              simp [go_sem] at q0 q1 q2 q3
              refine ⟨w7.heap.size, K2, N2, S2, T2, ok, rfl, rfl, ?_, ?_, ?_, ?_, ?_, hrc⟩
              · have hb7 : Below w7.heap.size w7 w8 := by
                  refine Below.trans ?_ (hb8.mono (by simp))
                  repeat (first | exact Below.refl _ _ | apply Below.drew | refine Below.alloc ?_ (by first | exact Nat.le_refl _ | simp) _)
                exact (((hb7.setCell (p := ⟨w7.heap.size, 0, none⟩) (Nat.le_refl _) _).setCell (p := ⟨w7.heap.size, 1, none⟩) (Nat.le_refl _) _).setCell (p := ⟨w7.heap.size, 2, none⟩) (Nat.le_refl _) _).setCell (p := ⟨w7.heap.size, 3, none⟩) (Nat.le_refl _) _
              all_goals simp [go_sem, q0, q1, q2, q3]
          case rest =>
          obtain ⟨g15, K2, N2, S2, T2, ok, rfl, rfl, hb9, v0, v1, v2, v3, hrc⟩ := hcut
          have hb9r : Below wr.heap.size wr wc := HAL7.out.trans (hb9.mono HAL7.out.size)
          have HRC2 := Lib.hid hrc
          have HB9 : Hid (Below wq.heap.size wq wc) := HBX.out.trans (hb9r.mono HZX.out.1)
          have HB9w : Hid (Below w.heap.size w wc) := HBW2.out.trans (hb9r.mono HZX.out.2)
          have T9 := Lib.hid (T7.out.below hb9r)
          have TE9 := Lib.hid (HTX.out.below hb9r)
          have HO9 : Hid (wc.ownsRow (E + 1) 57 4 (.slice vp k vc) k (cells4 done)) := own_kept_any HOX.out hb9r
          have HZ9 : Hid (wq.heap.size ≤ wc.heap.size) := HB9.out.size
          obtain ⟨wd, ewd⟩ : ∃ x, x = wc := ⟨_, rfl⟩
          subst ewd
          clear hb9 hb9r hrc k0 k1 zb7 zg7 nb7 ng7 nb8 ng8 kw kn kk kk0 kk1 HAL7 HRD7 HBX HTX HOX T7
          cases ok
          case false =>
            have HH : Hid (∀ tm vl, Fits (kdL l) tm vl → rowC tm vl ≠ C) := fun tm vl hf e => by
              rcases HRC2.out with ⟨h, _⟩ | ⟨_, h⟩
              · cases h
              · have h1 := HCK.out
                rw [← e, rowC, List.getElem?_cons_succ, List.getElem?_map] at h1
                obtain ⟨v, hv, hvc⟩ := Option.map_eq_some_iff.1 h1
                have h2 := hf.at hv
                rw [HAK.out] at h2
                exact h v h2.1 (Option.some.inj h2.2).symm hvc.symm
            have HXE : Hid (EvE (kdL l) C 12) := .inr (.inr (.inr ⟨HLEN.out, ⟨N, HTM.out, by rw [HC00.out, HR3.out.1]⟩, fun j x hx => HKD.out j x (by have := (List.getElem?_eq_some_iff.1 hx).1; simp only [kdL, List.length_map, ← show n = _ from HN.out] at this; exact this) hx, rfl⟩))
            obtain ⟨r0, r1, r2, z0, z1, z2⟩ := T9.out
            go_wp2
            exact bodyPost_ret (v := .tuple #[.agg #[.string ⟨#[]⟩, .int .i64 0, .slice none 0 0], .int .i64 12]) (by simp [results, Tryz.results11, go_sem, r0, r1, r2]) rfl (EventIs.bad (below_three HB9w.out KG.out _ _ _) (by decide) HH.out HXE.out)
          case true =>
          have HOK : Hid (K2 = ak ∧ Ok4 ⟨K2, N2, S2, T2⟩ ∧ cellV ⟨K2, N2, S2, T2⟩ = ck) := by
            rcases HRC2.out with ⟨_, h⟩ | ⟨h, _⟩
            · exact h
            · cases h
          have hm1 : k + 1 ≤ maxLen := by unfold maxLen; omega
          have hm2 : (k + 1) * 40 ≤ 140737488355328 := by omega
          have HE1 : Hid (∀ o : Obj, E + 1 ≤ (wd.alloc o).heap.size) := fun o => (by have := TE9.out.lt; simp; omega)
          obtain ⟨r0, r1, r2, z0, z1, z2⟩ := TE9.out
          clear HRC2
          go_wp2_with (at_builtin; refine wpList_append_lies _ rfl _ _ 39 rfl (E + 1) 57 i0 (.agg #[.int .i64 0, .int .i64 0, .string ⟨#[]⟩, .bool false]) 4 40 Tryz.underlying39 hi hz0 hz1 hz2 rfl (by decide) (.slice vp k vc) k (cells4 done) rfl (World.ownsRow.alloc HO9.out _) ⟨wd.heap.size, 0, none⟩ 1 1 [.int .i64 K2, .int .i64 N2, .string S2, .bool T2] rfl rfl (lit_cells wd _ _) (ones4 _ _ _ _) (by decide) hm1 hm2 (HE1.out _) (wd.heap.size + 1) (by simp) ?_)
          intro ga capa wa owna hgra hwha hlta
          have hal : Below wd.heap.size wd (wd.alloc (.cells #[.int .i64 K2, .int .i64 N2, .string S2, .bool T2] 57)) := (Below.refl _ _).alloc (Nat.le_refl _) _
          have hKE : wq.heap.size ≤ E := by have := HEE.out; omega
          have HBa : Hid (Below wq.heap.size wq wa) := (HB9.out.trans (hal.mono HZ9.out)).grown hgra (by have := HZ9.out; simp; omega) (fun x hx => by
            have := (World.ownsRow.lt HO9.out x hx).1
            omega)
          have TEa := Lib.hid ((TE9.out.below hal).grown hgra (own_not HO9.out (Nat.lt_succ_self E)))
          have OWa := Lib.hid owna
          have HD2 : Hid ((done ++ [(⟨K2, N2, S2, T2⟩ : V4)]).length = k + 1 ∧ (done ++ [(⟨K2, N2, S2, T2⟩ : V4)]).map (·.k) = (kdL l).take (k + 1) ∧ (∀ v ∈ done ++ [(⟨K2, N2, S2, T2⟩ : V4)], Ok4 v) ∧ rowC N (done ++ [(⟨K2, N2, S2, T2⟩ : V4)]) = C.take (k + 1 + 1)) := by
            obtain ⟨hdl, hmp, hokd, hrw⟩ := HDN.out
            obtain ⟨hk2, hok2, hc2⟩ := HOK.out
            obtain ⟨h1, h2⟩ := List.getElem?_eq_some_iff.1 HAK.out
            obtain ⟨h3, h4⟩ := List.getElem?_eq_some_iff.1 HCK.out
            refine ⟨by simp [hdl], ?_, fun v hv => ?_, ?_⟩
            · rw [take_snoc' h1, List.map_append, hmp, h2, hk2]
              rfl
            · rcases List.mem_append.1 hv with h | h
              · exact hokd v h
              · simp only [List.mem_singleton] at h
                rw [h]
                exact hok2
            · rw [take_snoc' h3, ← hrw, h4, ← hc2]
              unfold rowC
              rw [List.map_append]
              rfl
          have HKE := Lib.hid hKE
          obtain ⟨q0, q1, q2, f0, f1, f2⟩ := TEa.out
          clear owna hgra hwha hlta hal hKE r0 r1 r2 z0 z1 z2 v0 v1 v2 v3 hm1 hm2
          go_wp2
          go_roundw
          case rel =>
            refine ⟨k + 1, _, some ⟨ga, 0, none⟩, capa, by omega, by go_num, HD2.out.1, HBa.out.setCell (p := ⟨E, 2, none⟩) HKE.out _, TEa.out.vs _, ?_, HD2.out.2.1, HD2.out.2.2.1, HD2.out.2.2.2⟩
            rw [cells4_snoc]
            exact ownsRow_setCell_below OWa.out (a := ⟨E, 2, none⟩) (Nat.lt_succ_self E) _
          case measure => simp [intOf]; omega
        · have hkn2 : k = n := by omega
          subst hkn2
          obtain ⟨r0, r1, r2, z0, z1, z2⟩ := T7.out
          obtain ⟨q0, q1, q2, f0, f1, f2⟩ := HTX.out
          obtain ⟨hdl', hmp', hokd', hrw'⟩ := HDN.out
          have hvr := (own_valRow HOX.out).2
          have HH : Hid (EventIs w nm (kdL l) C (.returned (.tuple #[.agg #[.string nm, .int .i64 N, .slice vp k vc], .int .i64 0])) (((wr.setCell ⟨g + 1, 0, none⟩ (.string nm)).setCell ⟨g + 1, 1, none⟩ (.int .i64 N)).setCell ⟨g + 1, 2, none⟩ (.slice vp k vc))) := by
            refine ⟨below_three HBW2.out KG.out _ _ _, .inl ⟨N, done, vp, vc, by rw [hdl'], ?_, ?_, ⟨HTM.out, ?_, hokd'⟩, ?_⟩⟩
            · have hge : g + 1 < E + 1 := by have := HEE.out; omega
              exact (own_valRow (ownsRow_setCell_below (ownsRow_setCell_below (ownsRow_setCell_below HOX.out (a := ⟨g + 1, 0, none⟩) hge _) (a := ⟨g + 1, 1, none⟩) hge _) (a := ⟨g + 1, 2, none⟩) hge _)).2
            · intro a ha
              subst ha
              rcases HOX.out.2 with ⟨e, _⟩ | ⟨gx, _, _, e, hge, _⟩
              · simp only [Value.slice.injEq] at e
                cases e.1
              · simp only [Value.slice.injEq, Option.some.injEq] at e
                obtain ⟨rfl, _⟩ := e
                have h1 := HEE.out
                have h2 := HZR.out
                show w.heap.size ≤ gx
                omega
            · rw [hmp', HN.out, List.take_of_length_le (by simp [kdL])]
            · rw [hrw', List.take_of_length_le (by rw [← HM.out]; exact Nat.le_refl _)]
          clear hdl hbx hox hmp hokd hrw htx hdl' hmp' hokd' hrw' hvr
          go_wp2
          exact bodyPost_ret (v := .tuple #[.agg #[.string nm, .int .i64 N, .slice vp k vc], .int .i64 0]) (by simp [results, Tryz.results11, go_sem, r0, r1, r2]) rfl HH.out
end Go.Proofs.YtkficmbkoinjjaaGreatDoor
