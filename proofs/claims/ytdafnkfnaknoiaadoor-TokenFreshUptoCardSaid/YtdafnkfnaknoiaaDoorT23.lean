/- The memory in which the laws hand tokens in: rows of tokens in memory. The memory in which the laws hand tokens in: contract of list. The memory in which the laws hand tokens in: contract of kept. -/
import Derived.Test.YtdafnkfnaknoiaaDoorT9
import Derived.Test.YtdafnkfnaknoiaaDoorG7
import Derived.Laws.OwnMore
import Derived.Deep.AppendLies
import Derived.Lib.SmallJoins
namespace Go.Proofs.YtdafnkfnaknoiaaDoor
open Go Go.RowKit
set_option maxHeartbeats 2000000
set_option linter.unusedVariables false
set_option linter.unusedSimpArgs false
def cells3 (L : List Tok3) : List Value := L.flatMap (fun t => [.int .i64 t.1, .string t.2.1, .int .i64 t.2.2])
theorem cells3_cons (t : Tok3) (L : List Tok3) : cells3 (t :: L) = .int .i64 t.1 :: .string t.2.1 :: .int .i64 t.2.2 :: cells3 L := rfl
theorem cells3_len : ∀ L : List Tok3, (cells3 L).length = L.length * 3
  | [] => rfl
  | t :: L => by rw [cells3_cons]; simp only [List.length_cons, cells3_len L]; omega
theorem cells3_at : ∀ (L : List Tok3) (i : Nat) (h : i < L.length), (cells3 L)[i * 3]? = some (.int .i64 L[i].1) ∧ (cells3 L)[i * 3 + 1]? = some (.string L[i].2.1) ∧ (cells3 L)[i * 3 + 2]? = some (.int .i64 L[i].2.2)
  | [], i, h => by simp at h
  | t :: L, 0, _ => by rw [cells3_cons]; exact ⟨rfl, rfl, rfl⟩
  | t :: L, i + 1, h => by
    have ih := cells3_at L i (by simpa using h)
    rw [cells3_cons]
    have e0 : (i + 1) * 3 = i * 3 + 1 + 1 + 1 := by omega
    have e1 : (i + 1) * 3 + 1 = i * 3 + 1 + 1 + 1 + 1 := by omega
    have e2 : (i + 1) * 3 + 2 = i * 3 + 2 + 1 + 1 + 1 := by omega
    rw [e2, e1, e0]
    simp only [List.getElem?_cons_succ, List.getElem_cons_succ]
    exact ih
theorem cells3_one (L : List Tok3) : ∀ u ∈ cells3 L, u.oneCell' = true := by
  intro u hu
  unfold cells3 at hu
  obtain ⟨t, _, hu⟩ := List.mem_flatMap.1 hu
  simp only [List.mem_cons, List.not_mem_nil, or_false] at hu
  rcases hu with rfl | rfl | rfl <;> rfl
/-- where a row lies behind an append -/
def Lc (w : World) (v v' : Value) : Prop := v'.ownBlock = v.ownBlock ∨ ∀ k, v'.ownBlock = some k → w.heap.size ≤ k
theorem run_catT (w : World) (B : Nat) (i : TypeInfo) (hi : Tryd.prog.info? 28 = some i) (hz : i.zero = some (.agg #[.int .i64 0, .string ⟨#[]⟩, .int .i64 0])) (hsize : i.size = 3) (hby : i.bytes = 32) (v : Value) (n : Nat) (xs : List Value) (hown : w.ownsRow B 28 3 v n xs) (p : Option Addr) (c : Nat) (L : List Tok3) (hin : TokAt w p L) (hp : p = none → c = 0 ∧ L = [])
    (h63 : n + L.length ≤ maxLen) (hbytes : (n + L.length) * 32 ≤ 140737488355328) (hB : B ≤ w.heap.size) (ty : TypeId) :
    ∃ p' c' w', (Builtin.append_ #[23, 23] ty #[v, .slice p L.length c]).run Tryd.prog w = .ok (.slice p' (n + L.length) c') w' ∧ w'.ownsRow B 28 3 (.slice p' (n + L.length) c') (n + L.length) (xs ++ cells3 L) ∧ w.grownBy w' v.ownBlock ∧ Lc w v (.slice p' (n + L.length) c') := by
  have hform : ∀ {w' : World} {v' : Value} {n : Nat} {xs : List Value}, w'.ownsRow B 28 3 v' n xs → ∃ p c, v' = .slice p n c := fun h => by
    rcases h.2 with ⟨e, e0⟩ | ⟨g, cap, cur, e, _⟩
    · exact ⟨none, 0, by rw [e, e0]⟩
    · exact ⟨_, _, e⟩
  cases p with
  | none =>
    obtain ⟨rfl, rfl⟩ := hp rfl
    obtain ⟨q, d, rfl⟩ := hform hown
    exact ⟨q, d, w, run_append_owned_none (P := Tryd.prog) (w := w) B 23 ty 28 i 3 Tryd.underlying23 hi _ _ _ hown, by simpa [cells3] using hown, World.grownBy.refl w _, .inl rfl⟩
  | some ad =>
    have hnews : ∀ j u, (cells3 L)[j]? = some u → w.cell? (ad.add j) = some u := by
      intro j u hu
      have hj : j < L.length * 3 := by
        rw [← cells3_len]
        exact (List.getElem?_eq_some_iff.1 hu).1
      have hq : j / 3 < L.length := by omega
      obtain ⟨b, o, e, c0, c1, c2⟩ := hin (j / 3) hq
      obtain ⟨a0, a1, a2⟩ := cells3_at L (j / 3) hq
      simp only [Option.some.injEq] at e
      subst e
      rw [Addr.add_lit]
      have hr : j = j / 3 * 3 ∨ j = j / 3 * 3 + 1 ∨ j = j / 3 * 3 + 2 := by omega
      rcases hr with hr | hr | hr
      · rw [hr] at hu ⊢
        rw [a0] at hu
        rw [← Option.some.inj hu]
        exact c0
      · rw [hr] at hu ⊢
        rw [a1] at hu
        rw [← Option.some.inj hu]
        exact c1
      · rw [hr] at hu ⊢
        rw [a2] at hu
        rw [← Option.some.inj hu]
        exact c2
    obtain ⟨v', w', hr, h2, h3, _, h5⟩ := run_append_own_at (P := Tryd.prog) w B 23 ty 28 i (.agg #[.int .i64 0, .string ⟨#[]⟩, .int .i64 0]) 3 32 Tryd.underlying23 hi hz hsize hby rfl (by decide) v n xs hown ad L.length c (cells3 L) (cells3_len L) hnews (cells3_one L) h63 hbytes hB
    obtain ⟨q, d, rfl⟩ := hform h2
    refine ⟨q, d, w', hr, h2, h3, ?_⟩
    rcases h5 with h5 | h5
    · left; rw [h5]
    · right
      intro k hk
      rw [h5] at hk
      simp only [Option.some.injEq] at hk
      omega
theorem wpList_catT {w : World} {ops : Array Oper} {rest : List Oper} {o : Oper} {a : Act} {Q : Exit → Act → World → Prop} (hgd : o.guard = none) (sl x : Operand)
    (ho : o.op = .call { callee := .builtin .append, args := #[sl, x], argTypes := #[23, 23] }) (B : Nat) (i : TypeInfo) (hi : Tryd.prog.info? 28 = some i) (hz : i.zero = some (.agg #[.int .i64 0, .string ⟨#[]⟩, .int .i64 0])) (hsize : i.size = 3) (hby : i.bytes = 32)
    (v : Value) (n : Nat) (xs : List Value) (hs : a.eval sl = v) (hown : w.ownsRow B 28 3 v n xs) (p : Option Addr) (c m : Nat) (L : List Tok3) (hm : m = L.length) (hx : a.eval x = .slice p m c) (hin : TokAt w p L) (hp : p = none → c = 0 ∧ L = [])
    (h63 : n + L.length ≤ maxLen) (hbytes : (n + L.length) * 32 ≤ 140737488355328) (hB : B ≤ w.heap.size) (N : Nat) (hN : N = n + L.length)
    (h : ∀ p' c' w', w'.ownsRow B 28 3 (.slice p' N c') N (xs ++ cells3 L) → w.grownBy w' v.ownBlock → Lc w v (.slice p' N c') → wpList Tryd.prog ops Q rest (a.put o.dst (.slice p' N c')) w') : wpList Tryd.prog ops Q (o :: rest) a w := by
  subst hm
  subst hN
  refine wpList_plain hgd fun K hK => ?_
  obtain ⟨p', c', w', hr, h2, h3, h4⟩ := run_catT w B i hi hz hsize hby v n xs hown p c L hin hp h63 hbytes hB o.type
  unfold Oper.wp execOp
  simp only [ho, resolve, invoke, builtin, Sem.run_bind, Sem.run_pure, Result.andThen_ok, List.map_toArray, List.map_cons, List.map_nil, hs, hx, hr]
  exact hK _ _ (h p' c' w' h2 h3 h4)
/-- a row of one's own, all its room -/
theorem own3_full {w : World} {B g m cap : Nat} {xs : List Value} (h : w.ownsRow B 28 3 (.slice (some ⟨g, 0, none⟩) m cap) m xs) : ∃ ys, w.ownsRow B 28 3 (.slice (some ⟨g, 0, none⟩) cap cap) cap ys ∧ ys.take (m * 3) = xs ∧ m ≤ cap ∧ cap ≤ maxLen := by
  rcases h.2 with ⟨h', _⟩ | ⟨g', cap', cur, h', hb, hg, hnc, hcm, hcs, htake⟩
  · simp at h'
  · simp only [Value.slice.injEq, Option.some.injEq, Addr.mk.injEq, and_true, true_and] at h'
    obtain ⟨rfl, rfl⟩ := h'
    exact ⟨cur.toList, ⟨by simpa using hcs, .inr ⟨g, cap, cur, rfl, hb, hg, Nat.le_refl _, hcm, hcs, List.take_of_length_le (by simp [hcs])⟩⟩, htake, hnc, hcm⟩
theorem own3_zero {w : World} {B C : Nat} {p : Option Addr} {xs : List Value} (h : w.ownsRow B 28 3 (.slice p C C) C xs) : w.ownsRow B 28 3 (.slice p 0 C) 0 [] ∧ C ≤ maxLen := by
  rcases h.2 with ⟨h', h0⟩ | ⟨g', cap', cur, h', hb, hg, hnc, hcm, hcs, htake⟩
  · subst h0
    simp only [Value.slice.injEq, and_self, and_true] at h'
    subst h'
    exact ⟨World.ownsRow_nil _ _ _ _, by simp⟩
  · simp only [Value.slice.injEq, true_and] at h'
    obtain ⟨rfl, rfl⟩ := h'
    exact ⟨⟨by simp, .inr ⟨g', C, cur, rfl, hb, hg, Nat.zero_le _, hcm, hcs, by simp⟩⟩, hcm⟩
theorem own3_frozen {w : World} {B g n c : Nat} {xs : List Value} (h : w.ownsRow B 28 3 (.slice (some ⟨g, 0, none⟩) n c) n xs) (i : Nat) : w.frozen? ⟨g, i, none⟩ = false := by
  rcases h.2 with ⟨h1, _⟩ | ⟨g', cap, cur, h1, _, hb, _⟩
  · cases h1
  · simp only [Value.slice.injEq, Option.some.injEq, Addr.mk.injEq, and_true] at h1
    obtain ⟨rfl, _⟩ := h1
    simp [World.frozen?, hb]
theorem own3_cell {w : World} {B g n c : Nat} {xs : List Value} (h : w.ownsRow B 28 3 (.slice (some ⟨g, 0, none⟩) n c) n xs) {i : Nat} {u : Value} (hi : xs[i]? = some u) : w.cell? ⟨g, i, none⟩ = some u := by
  have := h.cells (g := g) rfl i u hi
  rw [Addr.add_lit] at this
  simpa using this
theorem own3_not {w : World} {B hb n : Nat} {v hv : Value} {xs : List Value} (h : w.ownsRow B 28 3 v n xs) (hk : w.heap[hb]? = some (.cells #[hv] 51 (0, 0))) : v.ownBlock ≠ some hb := by
  intro e
  rcases h.2 with ⟨rfl, _⟩ | ⟨g, cap, cur, rfl, _, hg, _⟩
  · cases e
  · simp only [Value.ownBlock, Option.some.injEq] at e
    subst e
    rw [hg] at hk
    simp at hk
theorem map_add_zero (p : Option Addr) : Option.map (fun x => x.add 0) p = p := by
  cases p with
  | none => rfl
  | some a => simp [Addr.add]
theorem run_front23 (p : Option Addr) (k n c : Nat) (hk : k ≤ c) (w : World) : (Instr.slice 23 (.slice p n c) none (some (.int .i64 k)) none).run Tryd.prog w = .ok (.slice p k c) w := by
  have hs : (sizeOf 28).run Tryd.prog w = .ok 3 w := by kernel_rfl
  have he : Tryd.prog.elem 23 = 28 := by kernel_rfl
  rw [run_slice_h w 23 p n c (by rw [he]; exact Tryd.underlying23) .i64 k (by omega) (by omega), he, hs]
  simp [Result.andThen, sliced, map_add_zero]
/-- the token at i of these cells -/
def At3 (xs : List Value) (i : Nat) (k : Int) (s : ByteArray) (a : Int) : Prop := xs[i * 3]? = some (.int .i64 k) ∧ xs[i * 3 + 1]? = some (.string s) ∧ xs[i * 3 + 2]? = some (.int .i64 a)
def set3 (xs : List Value) (i : Nat) (k : Int) (s : ByteArray) (a : Int) : List Value := ((xs.set (i * 3) (.int .i64 k)).set (i * 3 + 1) (.string s)).set (i * 3 + 2) (.int .i64 a)
def setT (w : World) (g i : Nat) (k : Int) (s : ByteArray) (a : Int) : World := ((w.setCell ⟨g, i * 3, none⟩ (.int .i64 k)).setCell ⟨g, i * 3 + 1, none⟩ (.string s)).setCell ⟨g, i * 3 + 2, none⟩ (.int .i64 a)
theorem set3_len (xs : List Value) (i : Nat) (k : Int) (s : ByteArray) (a : Int) : (set3 xs i k s a).length = xs.length := by simp [set3]
theorem set3_self {xs : List Value} {i : Nat} (h : i * 3 + 2 < xs.length) (k : Int) (s : ByteArray) (a : Int) : At3 (set3 xs i k s a) i k s a := by
  unfold At3 set3
  refine ⟨?_, ?_, ?_⟩
  · rw [List.getElem?_set_ne (by omega), List.getElem?_set_ne (by omega), List.getElem?_set_self (by omega)]
  · rw [List.getElem?_set_ne (by omega), List.getElem?_set_self (by simp; omega)]
  · rw [List.getElem?_set_self (by simp; omega)]
theorem set3_other {xs : List Value} {i j : Nat} (h : j ≠ i) (k : Int) (s : ByteArray) (a : Int) {k' : Int} {s' : ByteArray} {a' : Int} (hj : At3 xs j k' s' a') : At3 (set3 xs i k s a) j k' s' a' := by
  obtain ⟨h0, h1, h2⟩ := hj
  unfold At3 set3
  refine ⟨?_, ?_, ?_⟩
  · rw [List.getElem?_set_ne (by omega), List.getElem?_set_ne (by omega), List.getElem?_set_ne (by omega), h0]
  · rw [List.getElem?_set_ne (by omega), List.getElem?_set_ne (by omega), List.getElem?_set_ne (by omega), h1]
  · rw [List.getElem?_set_ne (by omega), List.getElem?_set_ne (by omega), List.getElem?_set_ne (by omega), h2]
theorem own3_setT {w : World} {B g n c : Nat} {xs : List Value} (h : w.ownsRow B 28 3 (.slice (some ⟨g, 0, none⟩) n c) n xs) (i : Nat) (k : Int) (s : ByteArray) (a : Int) : (setT w g i k s a).ownsRow B 28 3 (.slice (some ⟨g, 0, none⟩) n c) n (set3 xs i k s a) :=
  (((h.stored _ _).1.stored _ _).1.stored _ _).1
theorem setT_grown (w : World) (g i : Nat) (k : Int) (s : ByteArray) (a : Int) : w.grownBy (setT w g i k s a) (some g) := by
  refine ⟨rfl, rfl, rfl, by simp [setT], fun b _ hne => ?_⟩
  have hg : b ≠ g := fun e => hne (by rw [e])
  unfold setT
  rw [heap_setCell_other _ _ _ _ hg, heap_setCell_other _ _ _ _ hg, heap_setCell_other _ _ _ _ hg]
/-- the cells of a place of the row, and that they may be written -/
theorem own3_at {w : World} {B g C : Nat} {xs : List Value} (h : w.ownsRow B 28 3 (.slice (some ⟨g, 0, none⟩) C C) C xs) {k : Nat} (hk : k < C) : ∃ u0 u1 u2, w.cell? ⟨g, k * 3, none⟩ = some u0 ∧ w.cell? ⟨g, k * 3 + 1, none⟩ = some u1 ∧ w.cell? ⟨g, k * 3 + 2, none⟩ = some u2 ∧
    w.frozen? ⟨g, k * 3, none⟩ = false ∧ w.frozen? ⟨g, k * 3 + 1, none⟩ = false ∧ w.frozen? ⟨g, k * 3 + 2, none⟩ = false := by
  have hl := h.1
  have get : ∀ j, j < C * 3 → ∃ u, xs[j]? = some u := fun j hj => ⟨xs[j]'(by omega), List.getElem?_eq_getElem _⟩
  obtain ⟨u0, e0⟩ := get (k * 3) (by omega)
  obtain ⟨u1, e1⟩ := get (k * 3 + 1) (by omega)
  obtain ⟨u2, e2⟩ := get (k * 3 + 2) (by omega)
  exact ⟨u0, u1, u2, own3_cell h e0, own3_cell h e1, own3_cell h e2, own3_frozen h _, own3_frozen h _, own3_frozen h _⟩
/-- the memory in which tokens are handed in -/
structure Hd (w : World) (B hb : Nat) (p : Option Addr) (C : Nat) (xs : List Value) : Prop where
  lo : B ≤ hb
  blk : w.heap[hb]? = some (.cells #[.slice p C C] 51 (0, 0))
  own : w.ownsRow B 28 3 (.slice p C C) C xs
theorem Hd.below {w w' : World} {B hb : Nat} {p : Option Addr} {C : Nat} {xs : List Value} (h : Hd w B hb p C xs) (hw : Below w.heap.size w w') : Hd w' B hb p C xs :=
  ⟨h.lo, (hw.block hb (Array.getElem?_eq_some_iff.1 h.blk).1).trans h.blk, own3_keep h.own hw⟩
theorem Hd.cell {w : World} {B hb : Nat} {p : Option Addr} {C : Nat} {xs : List Value} (h : Hd w B hb p C xs) : w.cell? ⟨hb, 0, none⟩ = some (.slice p C C) ∧ w.frozen? ⟨hb, 0, none⟩ = false ∧ hb < w.heap.size := by
  have := h.blk
  exact ⟨by simp [World.cell?, this], by simp [World.frozen?, this], (Array.getElem?_eq_some_iff.1 h.blk).1⟩
/-- another row is put there -/
theorem Hd.put {w : World} {B hb : Nat} {v : Value} {p : Option Addr} {C : Nat} {xs : List Value} (hlo : B ≤ hb) (hk : w.heap[hb]? = some (.cells #[v] 51 (0, 0))) (h : w.ownsRow B 28 3 (.slice p C C) C xs) : Hd (w.setCell ⟨hb, 0, none⟩ (.slice p C C)) B hb p C xs := by
  refine ⟨hlo, ?_, ownsRow_setCell_other h (own3_not h hk) _⟩
  rw [heap_setCell_same w hb 0 #[v] 51 _ hk]
  rfl
end Go.Proofs.YtdafnkfnaknoiaaDoor
namespace Go.Proofs.YtdafnkfnaknoiaaDoor
open Go Go.RowKit
set_option maxHeartbeats 8000000
set_option linter.unusedVariables false
set_option linter.unusedSimpArgs false
attribute [local go_sem ↓] run_front23
/-- the number of the mark at i -/
def mk77 (i : Nat) : Int := IntKind.i64.wrap (77 + (i : Int))
/-- tokens, and marks behind them -/
structure Marked (L : List Tok3) (C : Nat) (xs : List Value) (i : Nat) : Prop where
  toks : ∀ j (h : j < L.length), At3 xs j L[j].1 L[j].2.1 L[j].2.2
  marks : ∀ j, L.length ≤ j → j < i → At3 xs j (mk77 j) ⟨#[]⟩ 0
/-- the other blocks are as they were -/
def Kep (w w' : World) (hb : Nat) (v v' : Value) : Prop := w.heap.size ≤ w'.heap.size ∧ ∀ b, b < w.heap.size → b ≠ hb → some b ≠ v.ownBlock → w'.heap[b]? = w.heap[b]? ∧ some b ≠ v'.ownBlock
theorem Kep.refl (w : World) (hb : Nat) (v : Value) : Kep w w hb v v := ⟨Nat.le_refl _, fun b _ _ h => ⟨rfl, h⟩⟩
theorem Kep.grown {w w1 w2 : World} {hb : Nat} {v v1 v2 : Value} (h : Kep w w1 hb v v1) (hg : w1.grownBy w2 v1.ownBlock) (hl : v2.ownBlock = v1.ownBlock ∨ ∀ k, v2.ownBlock = some k → w1.heap.size ≤ k) : Kep w w2 hb v v2 := by
  refine ⟨Nat.le_trans h.1 hg.size, fun b h1 h2 h3 => ?_⟩
  obtain ⟨e1, e2⟩ := h.2 b h1 h2 h3
  refine ⟨(hg.block b (by have := h.1; omega) e2).trans e1, ?_⟩
  rcases hl with hl | hl
  · rw [hl]; exact e2
  · intro e
    have := hl b e.symm
    have := h.1
    omega
theorem Kep.alloc {w w1 : World} {hb : Nat} {v v1 : Value} (h : Kep w w1 hb v v1) (o : Obj) : Kep w (w1.alloc o) hb v v1 := by
  refine ⟨by have := h.1; simp; omega, fun b h1 h2 h3 => ?_⟩
  obtain ⟨e1, e2⟩ := h.2 b h1 h2 h3
  exact ⟨(heap_alloc_old w1 _ (by have := h.1; omega)).trans e1, e2⟩
theorem Kep.setHb {w w1 : World} {hb : Nat} {v v1 v2 : Value} (h : Kep w w1 hb v v1) (hv : v2.ownBlock = none ∨ v2.ownBlock = v1.ownBlock) (u : Value) : Kep w (w1.setCell ⟨hb, 0, none⟩ u) hb v v2 := by
  refine ⟨by have := h.1; simpa using this, fun b h1 h2 h3 => ?_⟩
  obtain ⟨e1, e2⟩ := h.2 b h1 h2 h3
  refine ⟨(heap_setCell_other w1 ⟨hb, 0, none⟩ b u h2).trans e1, ?_⟩
  rcases hv with hv | hv
  · rw [hv]; simp
  · rw [hv]; exact e2
theorem Kep.setT {w w1 : World} {hb g c n : Nat} {v : Value} (h : Kep w w1 hb v (.slice (some ⟨g, 0, none⟩) n c)) (i : Nat) (k : Int) (s : ByteArray) (a : Int) : Kep w (YtdafnkfnaknoiaaDoor.setT w1 g i k s a) hb v (.slice (some ⟨g, 0, none⟩) n c) :=
  h.grown (setT_grown w1 g i k s a) (.inl rfl)
theorem Kep.row {w w1 : World} {hb : Nat} {v v1 v2 : Value} (h : Kep w w1 hb v v1) (hv : v2.ownBlock = v1.ownBlock) : Kep w w1 hb v v2 := ⟨h.1, fun b h1 h2 h3 => by rw [hv]; exact h.2 b h1 h2 h3⟩
set_option maxRecDepth 100000 in
theorem list_any (B hb : Nat) (p0 : Option Addr) (C0 : Nat) (xs0 : List Value) (p : Option Addr) (c : Nat) (L : List Tok3) (w : World) (hd : Hd w B hb p0 C0 xs0) (hB : B ≤ w.heap.size) (hL : TokAt w p L) (hLow : ∀ i, i < L.length → ∀ a, p = some a → a.block < B) (hp : p = none → c = 0 ∧ L = []) (hLen : L.length ≤ 1048576) :
    Calls Tryd.prog 26 #[.pointer (some ⟨hb, 0, none⟩), .slice p L.length c] w fun e w' => ∃ g C xs, e = .returned (.slice (some ⟨g, 0, none⟩) L.length C) ∧ Hd w' B hb (some ⟨g, 0, none⟩) C xs ∧ Marked L C xs C ∧ L.length ≤ C ∧ C ≤ maxLen ∧ Below B w w' ∧ Kep w w' hb (.slice p0 C0 C0) (.slice (some ⟨g, 0, none⟩) C C) := by
  obtain ⟨i0, hi0, hz0, hz1, hz2⟩ := info_parts infoTok
  obtain ⟨c0, z0, l0⟩ := hd.cell
  have hC0 := (own3_zero hd.own).2
  have HD := Lib.hid hd
  have HL := Lib.hid hL
  have HP := Lib.hid hp
  have HLO := Lib.hid hLow
  have HBB := Lib.hid hB
  obtain ⟨n, hn⟩ : ∃ n, n = L.length := ⟨_, rfl⟩
  rw [← hn] at hLen ⊢
  have HN := Lib.hid hn
  clear hd hL hn hp hLow hB
  have v1 : (n : Int) ≤ 1048576 := by omega
  have v2 : (C0 : Int) ≤ 9223372036854775807 := by unfold maxLen at hC0; omega
  obtain ⟨bb, hbb⟩ : ∃ bb, decide ((n : Int) + 70000 < (C0 : Int)) = bb := ⟨_, rfl⟩
  go_enter Tryd.func26, Tryd.ntmps26
  go_upto_if 17 with fail
  go_cut [] from 18 to 20 (fun wx => ∃ p1 C1 xs1, Hd wx B hb p1 C1 xs1 ∧ Below B w wx ∧ Kep w wx hb (.slice p0 C0 C0) (.slice p1 C1 C1))
  case first =>
    clear hbb
    cases bb
    · go_wp2
      go_meet
      case rel => exact ⟨p0, C0, xs0, HD.out, Below.refl _ _, Kep.refl _ _ _⟩
    · go_wp2
      go_meet
      case rel => exact ⟨none, 0, [], Hd.put HD.out.lo HD.out.blk (World.ownsRow_nil _ _ _ _), (Below.refl B w).setCell HD.out.lo _, (Kep.refl w hb _).setHb (.inl rfl) _⟩
  case rest =>
    obtain ⟨p1, C1, xs1, hd1, hb1, hkp1⟩ := hcut
    have HKP1 := Lib.hid hkp1
    clear hkp1
    clear c0 z0 l0 hC0 v2 HD
    obtain ⟨c0, z0, l0⟩ := hd1.cell
    obtain ⟨hz, hC1⟩ := own3_zero hd1.own
    have HD1 := Lib.hid hd1
    have HB1 := Lib.hid hb1
    have HZ := Lib.hid hz
    clear hd1 hb1 hz
    clear hbb
    have hB1w : B ≤ wc.heap.size := Nat.le_trans HBB.out HB1.out.size
    have HB1W := Lib.hid hB1w
    have HTW : Hid (TokAt wc p L) := by
      intro i h
      obtain ⟨b, o, e, d0, d1, d2⟩ := HL.out i h
      have hlt : b < B := HLO.out i h _ e
      exact ⟨b, o, e, (HB1.out.cell (p := ⟨b, o + i * 3, none⟩) hlt).trans d0, (HB1.out.cell (p := ⟨b, o + i * 3 + 1, none⟩) hlt).trans d1, (HB1.out.cell (p := ⟨b, o + i * 3 + 2, none⟩) hlt).trans d2⟩
    go_wp2_with (at_builtin; refine wpList_catT rfl _ _ rfl B i0 hi0 hz0 hz1 hz2 _ 0 [] rfl HZ.out p c n L HN.out rfl HTW.out HP.out (by have := HN.out; unfold maxLen; omega) (by have := HN.out; omega) HB1W.out n (by have := HN.out; omega) ?_)
    intro p2 c2 w2 hown2 hg2 hlc2
    have HB2 : Hid (Below B w w2) := HB1.out.grown hg2 HB1W.out (fun k hk => (HZ.out.lt k hk).1)
    have hk2 : w2.heap[hb]? = some (.cells #[.slice p1 C1 C1] 51 (0, 0)) := (hg2.block hb l0 (fun e => own3_not HZ.out HD1.out.blk e.symm)).trans HD1.out.blk
    have HK2 := Lib.hid hk2
    have HO2 := Lib.hid hown2
    have HKP2 : Hid (Kep w w2 hb (.slice p0 C0 C0) (.slice p2 n c2)) := (HKP1.out.row (v2 := .slice p1 0 C1) (by cases p1 <;> rfl)).grown hg2 hlc2
    have hB2w : B ≤ w2.heap.size := Nat.le_trans HBB.out HB2.out.size
    have HB2W := Lib.hid hB2w
    have hm1 : n + 2 ≤ maxLen := by unfold maxLen; omega
    have hm2 : (n + 2) * 32 ≤ 140737488355328 := by omega
    clear hk2 hown2 hg2 hlc2 hB2w hB1w c0 z0 l0 hC1
    go_wp2_with (at_builtin; refine wpList_append_lies _ rfl _ _ 23 rfl B 28 i0 (.agg #[.int .i64 0, .string ⟨#[]⟩, .int .i64 0]) 3 32 Tryd.underlying23 hi0 hz0 hz1 hz2 rfl (by decide) _ n ([] ++ cells3 L) rfl (World.ownsRow.alloc HO2.out _) ⟨w2.heap.size, 0, none⟩ 2 2 [.int .i64 0, .string ⟨#[]⟩, .int .i64 0, .int .i64 0, .string ⟨#[]⟩, .int .i64 0] rfl rfl (fun j u h => lit_at _ _ rfl _ _ j u h) (by intro u hu; simp only [List.mem_cons, List.not_mem_nil, or_false] at hu; rcases hu with rfl | rfl | rfl | rfl | rfl | rfl <;> rfl) (by decide) hm1 hm2 (by have := HB2W.out; simp; omega) (w2.heap.size + 1) (by simp) ?_)
    intro g c3 w3 hown3 hg3 hwh3 hlt3
    have HB3 : Hid (Below B w w3) := (HB2.out.alloc HB2W.out _).grown hg3 (by have := HB2W.out; simp; omega) (fun k hk => (HO2.out.lt k hk).1)
    have hk3 : w3.heap[hb]? = some (.cells #[.slice p1 C1 C1] 51 (0, 0)) := by
      have hl := (Array.getElem?_eq_some_iff.1 HK2.out).1
      refine (hg3.block hb (by simp; omega) (fun e => own3_not HO2.out HK2.out e.symm)).trans ?_
      exact (heap_alloc_old w2 _ hl).trans HK2.out
    have HK3 := Lib.hid hk3
    have HKP3 : Hid (Kep w w3 hb (.slice p0 C0 C0) (.slice (some ⟨g, 0, none⟩) c3 c3)) := (HKP2.out.alloc _).grown hg3 (by
      rcases hwh3 with h | h
      · left; rw [show (Value.slice (some (⟨g, 0, none⟩ : Addr)) c3 c3).ownBlock = some g from rfl, h]
      · right; intro k hk; rw [show (Value.slice (some (⟨g, 0, none⟩ : Addr)) c3 c3).ownBlock = some g from rfl] at hk; cases hk; simp; omega)
    obtain ⟨ys, hfull, htake, hnc, hcm⟩ := own3_full hown3
    have HFL := Lib.hid hfull
    have htoks : Marked L c3 ys n := by
      refine ⟨fun j h => ?_, fun j h1 h2 => absurd h2 (by have := HN.out; omega)⟩
      obtain ⟨a0, a1, a2⟩ := cells3_at L j h
      have hcl := cells3_len L
      have hj : ∀ q u, q < L.length * 3 → (cells3 L)[q]? = some u → ys[q]? = some u := fun q u hq hu => by
        have e : (ys.take ((n + 2) * 3))[q]? = some u := by
          rw [htake, List.getElem?_append_left (by rw [hcl]; exact hq)]
          exact hu
        rw [List.getElem?_take] at e
        split at e
        · exact e
        · cases e
      exact ⟨hj _ _ (by omega) a0, hj _ _ (by omega) a1, hj _ _ (by omega) a2⟩
    have HMK := Lib.hid htoks
    have v3 : (c3 : Int) ≤ 9223372036854775807 := by unfold maxLen at hcm; omega
    clear hk3 hown3 hg3 hwh3 hlt3 hfull htake htoks hm1 hm2
    go_wp2
    go_loopw [7] (fun iv wr => ∃ (i : Nat) (xs : List Value), iv = .int .i64 i ∧ n ≤ i ∧ i ≤ c3 ∧ wr.ownsRow B 28 3 (.slice (some ⟨g, 0, none⟩) c3 c3) c3 xs ∧ Marked L c3 xs i ∧ wr.heap[hb]? = some (.cells #[.slice p1 C1 C1] 51 (0, 0)) ∧ Below B w wr ∧ Kep w wr hb (.slice p0 C0 C0) (.slice (some ⟨g, 0, none⟩) c3 c3)) (fun iv _ => c3 - (intOf iv).toNat)
    case atStart => exact ⟨n, ys, rfl, Nat.le_refl _, by omega, HFL.out, HMK.out, HK3.out, HB3.out, HKP3.out⟩
    case round =>
      obtain ⟨i, xs, rfl, hni, hic, hown, hmk, hkk, hbb, hkp⟩ := hrel
      have HKP := Lib.hid hkp
      have HOW := Lib.hid hown
      have HM := Lib.hid hmk
      have HKK := Lib.hid hkk
      have HBW := Lib.hid hbb
      clear hown hmk hkk hbb hkp
      by_cases hlt : i < c3
      · have v4 : (i : Int) < (c3 : Int) := by omega
        obtain ⟨m, hm⟩ : ∃ m, IntKind.i64.wrap (77 + (i : Int)) = m := ⟨_, rfl⟩
        obtain ⟨u0, u1, u2, d0, d1, d2, y0, y1, y2⟩ := own3_at HOW.out hlt
        have hgB : B ≤ g := (HOW.out.lt g rfl).1
        have hgh : some hb ≠ some g := fun e => own3_not HOW.out HKK.out (by rw [show (Value.slice (some (⟨g, 0, none⟩ : Addr)) c3 c3).ownBlock = some g from rfl, e])
        have hxl : xs.length = c3 * 3 := HOW.out.1
        have HS := Lib.hid (own3_setT HOW.out i m ⟨#[]⟩ 0)
        have HM2 : Hid (Marked L c3 (set3 xs i m ⟨#[]⟩ 0) (i + 1)) := by
          have hmm : m = mk77 i := hm.symm
          refine ⟨fun j h => set3_other (by have := HN.out; omega) _ _ _ (HM.out.toks j h), fun j h1 h2 => ?_⟩
          by_cases hj : j = i
          · subst hj
            rw [hmm]
            exact set3_self (by omega) _ _ _
          · exact set3_other hj _ _ _ (HM.out.marks j h1 (by omega))
        have HK4 : Hid ((setT wr g i m ⟨#[]⟩ 0).heap[hb]? = some (.cells #[.slice p1 C1 C1] 51 (0, 0))) :=
          ((setT_grown wr g i m ⟨#[]⟩ 0).block hb (Array.getElem?_eq_some_iff.1 HKK.out).1 hgh).trans HKK.out
        have HB4 : Hid (Below B w (setT wr g i m ⟨#[]⟩ 0)) := ((HBW.out.setCell hgB _).setCell hgB _).setCell hgB _
        have HKP4 := Lib.hid (HKP.out.setT i m ⟨#[]⟩ 0)
        clear hgB hgh hxl
        go_wp2
        go_roundw
        case rel => exact ⟨i + 1, _, by go_num, by omega, by omega, HS.out, HM2.out, HK4.out, HB4.out, HKP4.out⟩
        case measure => simp [intOf]; omega
      · have hi3 : i = c3 := by omega
        subst hi3
        have e0 : wr.cell? ⟨hb, 0, none⟩ = some (.slice p1 C1 C1) := by have := HKK.out; simp [World.cell?, this]
        have e1 : wr.frozen? ⟨hb, 0, none⟩ = false := by have := HKK.out; simp [World.frozen?, this]
        have HF := Lib.hid (Hd.put HD1.out.lo HKK.out HOW.out)
        have HB5 : Hid (Below B w (wr.setCell ⟨hb, 0, none⟩ (.slice (some ⟨g, 0, none⟩) i i))) := HBW.out.setCell HD1.out.lo _
        have hd1 : decide (i < i) = false := by simp
        go_wp2
        go_ret
        exact ⟨g, i, xs, rfl, HF.out, HM.out, hni, hcm, HB5.out, HKP.out.setHb (.inr rfl) _⟩
end Go.Proofs.YtdafnkfnaknoiaaDoor
namespace Go.Proofs.YtdafnkfnaknoiaaDoor
open Go Go.RowKit
set_option maxHeartbeats 8000000
set_option linter.unusedVariables false
set_option linter.unusedSimpArgs false
attribute [local go_sem ↓] run_front23 run_eql_T run_neq_T
theorem Hd.setT {w : World} {B hb g C : Nat} {xs : List Value} (h : Hd w B hb (some ⟨g, 0, none⟩) C xs) (i : Nat) (k : Int) (s : ByteArray) (a : Int) : Hd (YtdafnkfnaknoiaaDoor.setT w g i k s a) B hb (some ⟨g, 0, none⟩) C (set3 xs i k s a) := by
  have hgh : some hb ≠ some g := fun e => own3_not h.own h.blk (by rw [show (Value.slice (some (⟨g, 0, none⟩ : Addr)) C C).ownBlock = some g from rfl, e])
  exact ⟨h.lo, ((setT_grown w g i k s a).block hb (Array.getElem?_eq_some_iff.1 h.blk).1 hgh).trans h.blk, own3_setT h.own i k s a⟩
abbrev keptS : ByteArray := ⟨#[107, 101, 112, 116]⟩
set_option maxRecDepth 100000 in
theorem kept_any (B hb g C : Nat) (xs0 : List Value) (p : Option Addr) (c : Nat) (L : List Tok3) (w : World) (hd : Hd w B hb (some ⟨g, 0, none⟩) C xs0) (hB : B ≤ w.heap.size) (hM : Marked L C xs0 C) (hC : C ≤ maxLen) (hL : TokAt w p L) (hLow : ∀ i, i < L.length → ∀ a, p = some a → a.block < B) (hLen : L.length ≤ 1048576) (hLC : L.length ≤ C) :
    Calls Tryd.prog 28 #[.pointer (some ⟨hb, 0, none⟩), .slice p L.length c] w fun e w' => ∃ xs, e = .returned (.bool true) ∧ Hd w' B hb (some ⟨g, 0, none⟩) C xs ∧ Below B w w' := by
  have HD := Lib.hid hd
  have HL := Lib.hid hL
  have HLO := Lib.hid hLow
  have HBB := Lib.hid hB
  have HM := Lib.hid hM
  obtain ⟨n, hn⟩ : ∃ n, n = L.length := ⟨_, rfl⟩
  rw [← hn] at hLen hLC ⊢
  have HN := Lib.hid hn
  have v2 : (C : Int) ≤ 9223372036854775807 := by unfold maxLen at hC; omega
  have v1 : (n : Int) ≤ 1048576 := by omega
  clear hd hL hn hLow hB hM hC
  go_enter Tryd.func28, Tryd.ntmps28
  go_wp2
  go_loopw [5, 6] (fun ov iv wr => ∃ (i : Nat) (xs : List Value), ov = .bool true ∧ iv = .int .i64 i ∧ i ≤ C ∧ Hd wr B hb (some ⟨g, 0, none⟩) C xs ∧ (∀ j k s a, i ≤ j → At3 xs0 j k s a → At3 xs j k s a) ∧ Below B w wr) (fun _ iv _ => C - (intOf iv).toNat)
  case atStart => exact ⟨0, xs0, rfl, rfl, Nat.zero_le _, HD.out, fun j k s a _ h => h, Below.refl _ _⟩
  case round =>
    obtain ⟨i, xs, rfl, rfl, hi, hd, hx, hbb⟩ := hrel
    obtain ⟨c0, z0, l0⟩ := hd.cell
    have HDI := Lib.hid hd
    have HX := Lib.hid hx
    have HBW := Lib.hid hbb
    clear hd hx hbb
    by_cases hlt : i < C
    · have v4 : (i : Int) < (C : Int) := by omega
      obtain ⟨m, hm⟩ : ∃ m, IntKind.i64.wrap (77 + (i : Int)) = m := ⟨_, rfl⟩
      have hgw : g < wr.heap.size := (HDI.out.own.lt g rfl).2
      have hgB : B ≤ g := (HDI.out.own.lt g rfl).1
      have hgh : some hb ≠ some g := fun e => own3_not HDI.out.own HDI.out.blk (by rw [show (Value.slice (some (⟨g, 0, none⟩ : Addr)) C C).ownBlock = some g from rfl, e])
      have hgh2 : hb ≠ g := fun e => hgh (by rw [e])
      have HQ : Hid (∀ o d, Below wr.heap.size wr ((wr.alloc o).drewN d)) := fun o d => below_drewN ((Below.refl _ _).alloc (Nat.le_refl _) o) d
      have HS : Hid (∀ o d, Hd (setT ((wr.alloc o).drewN d) g i 99 keptS 0) B hb (some ⟨g, 0, none⟩) C (set3 xs i 99 keptS 0)) := fun o d => (HDI.out.below (HQ.out o d)).setT _ _ _ _
      have HX2 : Hid (∀ j k s a, i + 1 ≤ j → At3 xs0 j k s a → At3 (set3 xs i 99 keptS 0) j k s a) := fun j k s a hj h => set3_other (by omega) _ _ _ (HX.out j k s a (by omega) h)
      have HBT : Hid (∀ o d, Below B w (setT ((wr.alloc o).drewN d) g i 99 keptS 0)) := fun o d => (((HBW.out.trans ((HQ.out o d).mono (by have := HBW.out.size; have := HBB.out; omega))).setCell hgB _).setCell hgB _).setCell hgB _
      have y0 := own3_frozen HDI.out.own (i * 3)
      have y1 := own3_frozen HDI.out.own (i * 3 + 1)
      have y2 := own3_frozen HDI.out.own (i * 3 + 2)
      clear hgB
      by_cases hin : i < n
      · have hiL : i < L.length := by rw [← show n = _ from HN.out]; exact hin
        obtain ⟨b, o, rfl, f0, f1, f2⟩ := HL.out i hiL
        have hbB : b < B := HLO.out i hiL _ rfl
        have hbw : b < wr.heap.size := by have := HBW.out.size; have := HBB.out; omega
        replace f0 := (HBW.out.cell (p := ⟨b, o + i * 3, none⟩) hbB).trans f0
        replace f1 := (HBW.out.cell (p := ⟨b, o + i * 3 + 1, none⟩) hbB).trans f1
        replace f2 := (HBW.out.cell (p := ⟨b, o + i * 3 + 2, none⟩) hbB).trans f2
        obtain ⟨x0, x1, x2⟩ := HX.out i _ _ _ (Nat.le_refl _) (HM.out.toks i hiL)
        have g0 := own3_cell HDI.out.own x0
        have g1 := own3_cell HDI.out.own x1
        have g2 := own3_cell HDI.out.own x2
        obtain ⟨⟨tk, ts, ta⟩, ht⟩ : ∃ t, t = L[i] := ⟨_, rfl⟩
        rw [← ht] at f0 f1 f2 g0 g1 g2
        have v5 : (i : Int) < (n : Int) := by omega
        have hte := teq_self tk ts ta
        clear x0 x1 x2 ht hbB hgh
        go_wp2
        go_quiet (fail)
        go_wp2
        go_roundw
        case rel => exact ⟨i + 1, _, by first | rfl | trivial, by go_num, by omega, HS.out _ _, HX2.out, HBT.out _ _⟩
        case measure => simp [intOf]; omega
      · obtain ⟨x0, x1, x2⟩ := HX.out i _ _ _ (Nat.le_refl _) (HM.out.marks i (by rw [← show n = _ from HN.out]; omega) hlt)
        have hmm : mk77 i = m := hm
        rw [hmm] at x0
        have g0 := own3_cell HDI.out.own x0
        have g1 := own3_cell HDI.out.own x1
        have g2 := own3_cell HDI.out.own x2
        have v5 : ¬ (i : Int) < (n : Int) := by omega
        have d5 : decide (i < n) = false := by simp; omega
        have hte := teq_self m ⟨#[]⟩ 0
        clear x0 x1 x2 hgh hmm
        go_wp2
        go_quiet (fail)
        go_wp2
        go_roundw
        case rel => exact ⟨i + 1, _, by first | rfl | trivial, by go_num, by omega, HS.out _ _, HX2.out, HBT.out _ _⟩
        case measure => simp [intOf]; omega
    · have v4 : ¬ (i : Int) < (C : Int) := by omega
      have d4 : decide (i < C) = false := by simp; omega
      go_wp2
      go_ret
      exact ⟨rfl, ⟨_, HDI.out⟩, HBW.out⟩
end Go.Proofs.YtdafnkfnaknoiaaDoor
