/- The lists that are kept: what a book holds; over. The lists that are kept: take. The lists that are kept: whole. A text's tokens, beside the document's own: scanned. The lists that are left untouched for a while. Two lists more that are left untouched: what the two appends leave behind. -/
import Derived.Test.YtdafnkfnaknoiaaDoorT25
namespace Go.Proofs.YtdafnkfnaknoiaaDoor
open Go Go.RowKit
set_option maxHeartbeats 4000000
set_option linter.unusedVariables false
set_option linter.unusedSimpArgs false
/-- a list that is full of a mark -/
def FullV (w : World) (v : Value) (k : Int) : Prop := ∃ (p : Option Addr) (n c : Nat), v = .slice p n c ∧ n ≤ maxLen ∧ ∀ j, j < n → ∃ g, p = some ⟨g, 0, none⟩ ∧ w.cell? ⟨g, j * 3, none⟩ = some (.int .i64 k) ∧ w.cell? ⟨g, j * 3 + 1, none⟩ = some (.string ⟨#[]⟩) ∧ w.cell? ⟨g, j * 3 + 2, none⟩ = some (.int .i64 0)
theorem FullV.keep {w w' : World} {v : Value} {k : Int} (h : FullV w v k) (hk : ∀ g, v.ownBlock = some g → g < w.heap.size → w'.heap[g]? = w.heap[g]?) : FullV w' v k := by
  obtain ⟨p, n, c, rfl, h0, h1⟩ := h
  refine ⟨p, n, c, rfl, h0, fun j hj => ?_⟩
  obtain ⟨g, rfl, c0, c1, c2⟩ := h1 j hj
  have e := hk g rfl (lt_of_cell c0)
  exact ⟨g, rfl, (World.cell?_of_block (a := ⟨g, j * 3, none⟩) e).trans c0, (World.cell?_of_block (a := ⟨g, j * 3 + 1, none⟩) e).trans c1, (World.cell?_of_block (a := ⟨g, j * 3 + 2, none⟩) e).trans c2⟩
theorem FullV.below {w w' : World} {v : Value} {k : Int} (h : FullV w v k) (hb : Below w.heap.size w w') : FullV w' v k := h.keep (fun g _ hg => hb.block g hg)
/-- a book: its lists, each full of its mark, and how much is kept -/
structure Bk (w : World) (B hb : Nat) (v : Value) (m : Int) (es : List Value) : Prop where
  lo : B ≤ hb
  blk : w.heap[hb]? = some (.cells #[v, .int .i64 m] 43 (0, 0))
  own : w.ownsRow B 23 1 v es.length es
  full : ∀ i (h : i < es.length), FullV w es[i] (1000 + ((i / 2 : Nat) : Int))
  kind : ∀ x ∈ es, ∀ g, x.ownBlock = some g → ∃ cur, w.heap[g]? = some (.cells cur 28 (0, 0))
theorem own23_keep {w w2 : World} {B : Nat} {v : Value} {n : Nat} {xs : List Value} (h : w.ownsRow B 23 1 v n xs) (hb : ∀ g, v.ownBlock = some g → w2.heap[g]? = w.heap[g]?) : w2.ownsRow B 23 1 v n xs := by
  refine ⟨h.1, ?_⟩
  rcases h.2 with h0 | ⟨g, cap, cur, rfl, h1, h2, h3⟩
  · exact .inl h0
  · exact .inr ⟨g, cap, cur, rfl, h1, (hb g rfl).trans h2, h3⟩
theorem Bk.keep {w w' : World} {B hb : Nat} {v : Value} {m : Int} {es : List Value} (h : Bk w B hb v m es) (hk : ∀ g, g < w.heap.size → (g = hb ∨ v.ownBlock = some g ∨ ∃ x ∈ es, x.ownBlock = some g) → w'.heap[g]? = w.heap[g]?) : Bk w' B hb v m es :=
  ⟨h.lo, (hk hb (Array.getElem?_eq_some_iff.1 h.blk).1 (.inl rfl)).trans h.blk, own23_keep h.own (fun g hg => hk g (h.own.lt g hg).2 (.inr (.inl hg))), fun i hi => (h.full i hi).keep (fun g hg hl => hk g hl (.inr (.inr ⟨es[i], List.getElem_mem hi, hg⟩))),
    fun x hx g hg => by
      obtain ⟨cur, hc⟩ := h.kind x hx g hg
      exact ⟨cur, (hk g (Array.getElem?_eq_some_iff.1 hc).1 (.inr (.inr ⟨x, hx, hg⟩))).trans hc⟩⟩
theorem Bk.below {w w' : World} {B hb : Nat} {v : Value} {m : Int} {es : List Value} (h : Bk w B hb v m es) (hb' : Below w.heap.size w w') : Bk w' B hb v m es := h.keep (fun g hg _ => hb'.block g hg)
theorem Bk.cells {w : World} {B hb : Nat} {v : Value} {m : Int} {es : List Value} (h : Bk w B hb v m es) : w.cell? ⟨hb, 0, none⟩ = some v ∧ w.cell? ⟨hb, 1, none⟩ = some (.int .i64 m) ∧ w.frozen? ⟨hb, 0, none⟩ = false ∧ w.frozen? ⟨hb, 1, none⟩ = false ∧ hb < w.heap.size := by
  have := h.blk
  exact ⟨by simp [World.cell?, this], by simp [World.cell?, this], by simp [World.frozen?, this], by simp [World.frozen?, this], (Array.getElem?_eq_some_iff.1 h.blk).1⟩
theorem block_ne {w : World} {g hb : Nat} {a b : Array Value} {s t : TypeId} {f f' : Nat × Nat} (h1 : w.heap[g]? = some (.cells a s f)) (h2 : w.heap[hb]? = some (.cells b t f')) (hst : s ≠ t) : g ≠ hb := by
  rintro rfl
  rw [h1] at h2
  simp at h2
  exact hst h2.2.1
theorem own_type {w : World} {B : Nat} {e : TypeId} {size : Nat} {v : Value} {n : Nat} {xs : List Value} (h : w.ownsRow B e size v n xs) {g : Nat} (hg : v.ownBlock = some g) : ∃ cur, w.heap[g]? = some (.cells cur e (0, 0)) := by
  rcases h.2 with ⟨rfl, _⟩ | ⟨g', cap, cur, rfl, _, h2, _⟩
  · cases hg
  · simp only [Value.ownBlock, Option.some.injEq] at hg
    subst hg
    exact ⟨cur, h2⟩
theorem Bk.ne_hb {w : World} {B hb : Nat} {v : Value} {m : Int} {es : List Value} (h : Bk w B hb v m es) : (∀ x ∈ es, x.ownBlock ≠ some hb) ∧ v.ownBlock ≠ some hb ∧ ∀ x ∈ es, ∀ g, x.ownBlock = some g → v.ownBlock ≠ some g := by
  refine ⟨fun x hx e => ?_, fun e => ?_, fun x hx g hg e => ?_⟩
  · obtain ⟨cur, hc⟩ := h.kind x hx hb e
    exact block_ne hc h.blk (by decide) rfl
  · obtain ⟨cur, hc⟩ := own_type h.own e
    exact block_ne hc h.blk (by decide) rfl
  · obtain ⟨cur, hc⟩ := own_type h.own e
    obtain ⟨cur', hc'⟩ := h.kind x hx g hg
    exact block_ne hc hc' (by decide) rfl
/-- how much is kept is written anew -/
theorem Bk.much {w : World} {B hb : Nat} {v : Value} {m : Int} {es : List Value} (h : Bk w B hb v m es) (m' : Int) : Bk (w.setCell ⟨hb, 1, none⟩ (.int .i64 m')) B hb v m' es := by
  have hoth : ∀ g, g ≠ hb → (w.setCell ⟨hb, 1, none⟩ (.int .i64 m')).heap[g]? = w.heap[g]? := fun g hg => heap_setCell_other w ⟨hb, 1, none⟩ g _ hg
  obtain ⟨n1, n2, n3⟩ := h.ne_hb
  refine ⟨h.lo, ?_, own23_keep h.own (fun g hg => hoth g (fun e => n2 (by rw [hg, e]))), fun i hi => (h.full i hi).keep (fun g hg _ => hoth g (fun e => n1 _ (List.getElem_mem hi) (by rw [hg, e]))), fun x hx g hg => ?_⟩
  · rw [heap_setCell_same w hb 1 _ 43 _ h.blk]
    rfl
  · obtain ⟨cur, hc⟩ := h.kind x hx g hg
    exact ⟨cur, (hoth g (fun e => n1 x hx (by rw [hg, e]))).trans hc⟩
/-- another row of lists is put there -/
theorem Bk.put {w : World} {B hb : Nat} {v v' : Value} {m : Int} {es : List Value} (hlo : B ≤ hb) (hk : w.heap[hb]? = some (.cells #[v', .int .i64 m] 43 (0, 0))) (ho : w.ownsRow B 23 1 v es.length es) (hf : ∀ i (h : i < es.length), FullV w es[i] (1000 + ((i / 2 : Nat) : Int))) (hkd : ∀ x ∈ es, ∀ g, x.ownBlock = some g → ∃ cur, w.heap[g]? = some (.cells cur 28 (0, 0))) : Bk (w.setCell ⟨hb, 0, none⟩ v) B hb v m es := by
  have hoth : ∀ g, g ≠ hb → (w.setCell ⟨hb, 0, none⟩ v).heap[g]? = w.heap[g]? := fun g hg => heap_setCell_other w ⟨hb, 0, none⟩ g _ hg
  have n1 : ∀ x ∈ es, x.ownBlock ≠ some hb := fun x hx e => by
    obtain ⟨cur, hc⟩ := hkd x hx hb e
    exact block_ne hc hk (by decide) rfl
  have n2 : v.ownBlock ≠ some hb := fun e => by
    obtain ⟨cur, hc⟩ := own_type ho e
    exact block_ne hc hk (by decide) rfl
  refine ⟨hlo, ?_, own23_keep ho (fun g hg => hoth g (fun e => n2 (by rw [hg, e]))), fun i hi => (hf i hi).keep (fun g hg _ => hoth g (fun e => n1 _ (List.getElem_mem hi) (by rw [hg, e]))), fun x hx g hg => ?_⟩
  · rw [heap_setCell_same w hb 0 _ 43 _ hk]
    rfl
  · obtain ⟨cur, hc⟩ := hkd x hx g hg
    exact ⟨cur, (hoth g (fun e => n1 x hx (by rw [hg, e]))).trans hc⟩
set_option maxRecDepth 100000 in
theorem over_any (B hb : Nat) (v : Value) (m n : Int) (es : List Value) (w : World) (h : Bk w B hb v m es) (h0 : 0 ≤ m) (h1 : m ≤ 1000000000000000) (h2 : 0 ≤ n) (h3 : n ≤ 1000000000000) : Calls Tryd.prog 18 #[.pointer (some ⟨hb, 0, none⟩), .int .i64 n] w fun e w' => e = .returned (.bool (decide (33554432 < m + 400 + n))) ∧ w' = w.setCell ⟨hb, 1, none⟩ (.int .i64 (m + 400 + n)) := by
  obtain ⟨c0, c1, z0, z1, l0⟩ := h.cells
  clear h
  go_enter Tryd.func18, Tryd.ntmps18
  go_wp2
  go_ret
  exact ⟨rfl, rfl⟩
end Go.Proofs.YtdafnkfnaknoiaaDoor
namespace Go.Proofs.YtdafnkfnaknoiaaDoor
open Go Go.RowKit
set_option maxHeartbeats 8000000
set_option linter.unusedVariables false
set_option linter.unusedSimpArgs false
attribute [local go_sem ↓] run_front23
theorem own3_x {w : World} {B L c : Nat} {p : Option Addr} {xs : List Value} (h : w.ownsRow B 28 3 (.slice p L c) L xs) (n : Nat) (hn : n ≤ c) : ∃ ys, w.ownsRow B 28 3 (.slice p n c) n ys := by
  rcases h.2 with ⟨h', h0⟩ | ⟨g', cap', cur, h', hb, hg, hnc, hcm, hcs, htake⟩
  · simp only [Value.slice.injEq] at h'
    obtain ⟨rfl, _, rfl⟩ := h'
    obtain rfl : n = 0 := by omega
    exact ⟨[], World.ownsRow_nil _ _ _ _⟩
  · simp only [Value.slice.injEq, true_and] at h'
    obtain ⟨rfl, rfl⟩ := h'
    exact ⟨cur.toList.take (n * 3), ⟨by rw [List.length_take, Array.length_toList, hcs]; have := Nat.mul_le_mul_right 3 hn; omega, .inr ⟨g', c, cur, rfl, hb, hg, hn, hcm, hcs, rfl⟩⟩⟩
theorem own3_capM {w : World} {B L c : Nat} {p : Option Addr} {xs : List Value} (h : w.ownsRow B 28 3 (.slice p L c) L xs) : c ≤ maxLen ∧ L ≤ c := by
  rcases h.2 with ⟨h', h0⟩ | ⟨g', cap', cur, h', hb, hg, hnc, hcm, hcs, htake⟩
  · simp only [Value.slice.injEq] at h'
    obtain ⟨rfl, rfl, rfl⟩ := h'
    exact ⟨Nat.zero_le _, Nat.le_refl _⟩
  · simp only [Value.slice.injEq, true_and] at h'
    obtain ⟨rfl, rfl⟩ := h'
    exact ⟨hcm, hnc⟩
/-- but for these blocks all is as it was -/
structure Chg (w w' : World) (S : Nat → Prop) : Prop where
  size : w.heap.size ≤ w'.heap.size
  block : ∀ b, b < w.heap.size → ¬ S b → w'.heap[b]? = w.heap[b]?
theorem Chg.refl (w : World) (S : Nat → Prop) : Chg w w S := ⟨Nat.le_refl _, fun _ _ _ => rfl⟩
theorem Chg.alloc {w w' : World} {S : Nat → Prop} (h : Chg w w' S) (o : Obj) : Chg w (w'.alloc o) S :=
  ⟨by have := h.size; simp; omega, fun b hb hs => (heap_alloc_old w' _ (by have := h.size; omega)).trans (h.block b hb hs)⟩
theorem Chg.below {w w1 w2 : World} {S : Nat → Prop} (h : Chg w w1 S) (hb : Below w1.heap.size w1 w2) : Chg w w2 S :=
  ⟨Nat.le_trans h.size hb.size, fun b h1 h2 => (hb.block b (by have := h.size; omega)).trans (h.block b h1 h2)⟩
theorem Chg.set {w w1 : World} {S : Nat → Prop} (h : Chg w w1 S) {g : Nat} (hg : S g) (o : Nat) (u : Value) : Chg w (w1.setCell ⟨g, o, none⟩ u) S :=
  ⟨by have := h.size; simpa using this, fun b h1 h2 => (heap_setCell_other w1 ⟨g, o, none⟩ b u (fun e => h2 (by rw [show b = g from e]; exact hg))).trans (h.block b h1 h2)⟩
theorem Chg.grown {w w1 w2 : World} {S : Nat → Prop} (h : Chg w w1 S) {row : Option Nat} (hg : w1.grownBy w2 row) (hr : ∀ g, row = some g → S g ∨ w.heap.size ≤ g) : Chg w w2 S := by
  refine ⟨Nat.le_trans h.size hg.size, fun b h1 h2 => (hg.block b (by have := h.size; omega) (fun e => ?_)).trans (h.block b h1 h2)⟩
  rcases hr b e.symm with h3 | h3
  · exact h2 h3
  · omega
theorem Chg.trans {w w1 w2 : World} {S : Nat → Prop} (h : Chg w w1 S) (h' : Chg w1 w2 S) : Chg w w2 S :=
  ⟨Nat.le_trans h.size h'.size, fun b h1 h2 => (h'.block b (by have := h.size; omega) h2).trans (h.block b h1 h2)⟩
/-- one more token behind a row of one's own: in its room, or in a new block -/
theorem run_app1 (w : World) (B : Nat) (i : TypeInfo) (hi : Tryd.prog.info? 28 = some i) (hz : i.zero = some (.agg #[.int .i64 0, .string ⟨#[]⟩, .int .i64 0])) (hsize : i.size = 3) (hby : i.bytes = 32) (p : Option Addr) (n c : Nat) (xs : List Value) (hown : w.ownsRow B 28 3 (.slice p n c) n xs) (ad : Addr) (d : Nat) (news : List Value) (hl : news.length = 1 * 3) (hnews : ∀ j u, news[j]? = some u → w.cell? (ad.add j) = some u) (h1 : ∀ u ∈ news, u.oneCell' = true)
    (h63 : n + 1 ≤ maxLen) (hbytes : (n + 1) * 32 ≤ 140737488355328) (hB : B ≤ w.heap.size) (ty : TypeId) :
    ∃ g cap w', (Builtin.append_ #[23, 23] ty #[.slice p n c, .slice (some ad) 1 d]).run Tryd.prog w = .ok (.slice (some ⟨g, 0, none⟩) (n + 1) cap) w' ∧ w'.ownsRow B 28 3 (.slice (some ⟨g, 0, none⟩) (n + 1) cap) (n + 1) (xs ++ news) ∧
      (p = some ⟨g, 0, none⟩ ∧ w.grownBy w' (some g) ∨ g = w.heap.size ∧ w.grownBy w' none) := by
  obtain ⟨g, cap, w', hr, h2, h3, h4, h5⟩ := run_append_lies (P := Tryd.prog) (w := w) 23 ty B 28 i (.agg #[.int .i64 0, .string ⟨#[]⟩, .int .i64 0]) 3 32 Tryd.underlying23 hi hz hsize hby rfl (by decide) (.slice p n c) n xs hown ad 1 d news hl hnews h1 (by decide) h63 hbytes hB w.heap.size rfl
  refine ⟨g, cap, w', hr, h2, ?_⟩
  rcases hown.2 with ⟨e, e0⟩ | ⟨g0, cap0, cur, e, _, hg, hnc, hcm, hcs, htake⟩
  · simp only [Value.slice.injEq] at e
    obtain ⟨rfl, _, rfl⟩ := e
    rcases h4 with h4 | h4
    · cases h4
    · exact .inr ⟨h4, h3⟩
  · simp only [Value.slice.injEq, true_and] at e
    obtain ⟨rfl, rfl⟩ := e
    by_cases hroom : n + 1 ≤ c
    · have hfit : n * i.size + news.length ≤ cur.size := by rw [hl, hcs, hsize, ← Nat.add_mul]; exact Nat.mul_le_mul_right _ hroom
      have hr2 := run_append_room (P := Tryd.prog) w 23 ty 28 i Tryd.underlying23 hi g0 n c cur hg ad 1 d news (by rw [hl, hsize]) hnews h1 hroom hfit
      rw [hr] at hr2
      have he : (Value.slice (some (⟨g, 0, none⟩ : Addr)) (n + 1) cap) = .slice (some ⟨g0, 0, none⟩) (n + 1) c := by
        injection hr2
      simp only [Value.slice.injEq, Option.some.injEq, Addr.mk.injEq, and_true, true_and] at he
      obtain ⟨rfl, rfl⟩ := he
      exact .inl ⟨rfl, h3⟩
    · have holds : ∀ j u, xs[j]? = some u → w.cell? ((⟨g0, 0, none⟩ : Addr).add j) = some u := hown.cells (g := g0) rfl
      have hsm : n + 1 ≤ 9223372036854775807 := by unfold maxLen at h63; omega
      have hr2 := run_append_grow (P := Tryd.prog) w 23 ty 28 i _ Tryd.underlying23 hi hz ⟨g0, 0, none⟩ n c xs (by rw [hsize]; exact hown.1) holds ad 1 d news (by rw [hl, hsize]) hnews (by omega) (by omega) (growslice_fits (by omega) (by rw [hby]; exact hbytes))
      rw [hr] at hr2
      injection hr2 with he hw
      simp only [Value.slice.injEq, Option.some.injEq, Addr.mk.injEq, and_true, true_and] at he
      obtain ⟨rfl, _⟩ := he
      refine .inr ⟨rfl, ?_⟩
      rw [hw]
      exact ⟨rfl, rfl, rfl, by simp, fun k hk _ => heap_alloc_old w.drew _ hk⟩
theorem wpList_app1 {w : World} {ops : Array Oper} {rest : List Oper} {o : Oper} {a : Act} {Q : Exit → Act → World → Prop} (hgd : o.guard = none) (sl x : Operand)
    (ho : o.op = .call { callee := .builtin .append, args := #[sl, x], argTypes := #[23, 23] }) (B : Nat) (i : TypeInfo) (hi : Tryd.prog.info? 28 = some i) (hz : i.zero = some (.agg #[.int .i64 0, .string ⟨#[]⟩, .int .i64 0])) (hsize : i.size = 3) (hby : i.bytes = 32)
    (p : Option Addr) (n c : Nat) (xs : List Value) (hs : a.eval sl = .slice p n c) (hown : w.ownsRow B 28 3 (.slice p n c) n xs) (ad : Addr) (d : Nat) (news : List Value) (hx : a.eval x = .slice (some ad) 1 d) (hl : news.length = 1 * 3) (hnews : ∀ j u, news[j]? = some u → w.cell? (ad.add j) = some u) (h1 : ∀ u ∈ news, u.oneCell' = true)
    (h63 : n + 1 ≤ maxLen) (hbytes : (n + 1) * 32 ≤ 140737488355328) (hB : B ≤ w.heap.size) (H : Nat) (hH : w.heap.size = H)
    (h : ∀ g cap w', w'.ownsRow B 28 3 (.slice (some ⟨g, 0, none⟩) (n + 1) cap) (n + 1) (xs ++ news) → (p = some ⟨g, 0, none⟩ ∧ w.grownBy w' (some g) ∨ g = H ∧ w.grownBy w' none) → wpList Tryd.prog ops Q rest (a.put o.dst (.slice (some ⟨g, 0, none⟩) (n + 1) cap)) w') : wpList Tryd.prog ops Q (o :: rest) a w := by
  subst hH
  refine wpList_plain hgd fun K hK => ?_
  obtain ⟨g, c', w', hr, h2, h3⟩ := run_app1 w B i hi hz hsize hby p n c xs hown ad d news hl hnews h1 h63 hbytes hB o.type
  unfold Oper.wp execOp
  simp only [ho, resolve, invoke, builtin, Sem.run_bind, Sem.run_pure, Result.andThen_ok, List.map_toArray, List.map_cons, List.map_nil, hs, hx, hr]
  exact hK _ _ (h g c' w' h2 h3)
theorem step_app1 {w : World} {ops : Array Oper} {o : Oper} {a : Act} {K : Act → World → Prop} {Q : Exit → Act → World → Prop} {E : Prop} (hgd : o.guard = none) (sl x : Operand)
    (ho : o.op = .call { callee := .builtin .append, args := #[sl, x], argTypes := #[23, 23] }) (B : Nat) (i : TypeInfo) (hi : Tryd.prog.info? 28 = some i) (hz : i.zero = some (.agg #[.int .i64 0, .string ⟨#[]⟩, .int .i64 0])) (hsize : i.size = 3) (hby : i.bytes = 32)
    (p : Option Addr) (n c : Nat) (xs : List Value) (hs : a.eval sl = .slice p n c) (hown : w.ownsRow B 28 3 (.slice p n c) n xs) (ad : Addr) (d : Nat) (news : List Value) (hx : a.eval x = .slice (some ad) 1 d) (hl : news.length = 1 * 3) (hnews : ∀ j u, news[j]? = some u → w.cell? (ad.add j) = some u) (h1 : ∀ u ∈ news, u.oneCell' = true)
    (h63 : n + 1 ≤ maxLen) (hbytes : (n + 1) * 32 ≤ 140737488355328) (hB : B ≤ w.heap.size) (H : Nat) (hH : w.heap.size = H)
    (h : ∀ g cap w', w'.ownsRow B 28 3 (.slice (some ⟨g, 0, none⟩) (n + 1) cap) (n + 1) (xs ++ news) → (p = some ⟨g, 0, none⟩ ∧ w.grownBy w' (some g) ∨ g = H ∧ w.grownBy w' none) → K (a.put o.dst (.slice (some ⟨g, 0, none⟩) (n + 1) cap)) w') :
    if Region.wanted o (yielded ops a.tmps) = true then Oper.wp Tryd.prog o a w K Q else E := by
  subst hH
  have hw : Region.wanted o (yielded ops a.tmps) = true := by simp [Region.wanted, hgd]
  rw [if_pos hw]
  obtain ⟨g, c', w', hr, h2, h3⟩ := run_app1 w B i hi hz hsize hby p n c xs hown ad d news hl hnews h1 h63 hbytes hB o.type
  unfold Oper.wp execOp
  simp only [ho, resolve, invoke, builtin, Sem.run_bind, Sem.run_pure, Result.andThen_ok, List.map_toArray, List.map_cons, List.map_nil, hs, hx, hr]
  exact h g c' w' h2 h3
theorem app1_keep {w w' : World} {p : Option Addr} {g : Nat} (h : p = some ⟨g, 0, none⟩ ∧ w.grownBy w' (some g) ∨ g = w.heap.size ∧ w.grownBy w' none) : w.heap.size ≤ w'.heap.size ∧ ∀ b, b < w.heap.size → p ≠ some ⟨b, 0, none⟩ → w'.heap[b]? = w.heap[b]? := by
  rcases h with ⟨rfl, h⟩ | ⟨rfl, h⟩
  · exact ⟨h.size, fun b hb hp => h.block b hb (fun e => hp (by simp only [Option.some.injEq] at e; rw [e]))⟩
  · exact ⟨h.size, fun b hb hp => h.block b hb (by simp)⟩
/-- what is full with one more behind it -/
theorem app_full {w : World} {B g n cap : Nat} {zs : List Value} {k : Int} (h : w.ownsRow B 28 3 (.slice (some ⟨g, 0, none⟩) (n + 1) cap) (n + 1) (zs ++ [.int .i64 k, .string ⟨#[]⟩, .int .i64 0])) (hz : zs.length = n * 3) (hat : ∀ j, j < n → At3 zs j k ⟨#[]⟩ 0) (hn : n + 1 ≤ maxLen) :
    FullV w (.slice (some ⟨g, 0, none⟩) (n + 1) cap) k ∧ ∀ c, FullV w (.slice (some ⟨g, 0, none⟩) n c) k := by
  have old : ∀ j, j < n → w.cell? ⟨g, j * 3, none⟩ = some (.int .i64 k) ∧ w.cell? ⟨g, j * 3 + 1, none⟩ = some (.string ⟨#[]⟩) ∧ w.cell? ⟨g, j * 3 + 2, none⟩ = some (.int .i64 0) := fun j hj => by
    obtain ⟨a0, a1, a2⟩ := hat j hj
    refine ⟨own3_cell h ?_, own3_cell h ?_, own3_cell h ?_⟩
    · rw [List.getElem?_append_left (by omega)]; exact a0
    · rw [List.getElem?_append_left (by omega)]; exact a1
    · rw [List.getElem?_append_left (by omega)]; exact a2
  refine ⟨⟨_, _, _, rfl, hn, fun j hj => ⟨g, rfl, ?_⟩⟩, fun c => ⟨_, _, _, rfl, by omega, fun j hj => ⟨g, rfl, old j hj⟩⟩⟩
  by_cases hjn : j < n
  · exact old j hjn
  · obtain rfl : j = n := by omega
    refine ⟨own3_cell h ?_, own3_cell h ?_, own3_cell h ?_⟩
    · rw [List.getElem?_append_right (by omega), show j * 3 - zs.length = 0 by omega]; rfl
    · rw [List.getElem?_append_right (by omega), show j * 3 + 1 - zs.length = 1 by omega]; rfl
    · rw [List.getElem?_append_right (by omega), show j * 3 + 2 - zs.length = 2 by omega]; rfl
theorem full_of_own {w : World} {B n c : Nat} {p : Option Addr} {zs : List Value} {k : Int} (h : w.ownsRow B 28 3 (.slice p n c) n zs) (hat : ∀ j, j < n → At3 zs j k ⟨#[]⟩ 0) (hn : n ≤ maxLen) : FullV w (.slice p n c) k := by
  refine ⟨p, n, c, rfl, hn, fun j hj => ?_⟩
  obtain ⟨g, cap, hpe, _⟩ := h.form (by omega)
  simp only [Value.slice.injEq, true_and] at hpe
  obtain ⟨rfl, rfl⟩ := hpe
  obtain ⟨a0, a1, a2⟩ := hat j hj
  exact ⟨g, rfl, own3_cell h a0, own3_cell h a1, own3_cell h a2⟩
theorem info23 : (Tryd.prog.info? 23).map (fun i => (i.zero, i.size, i.bytes)) = some (some (.slice none 0 0), 1, 24) := by kernel_rfl
theorem own3_at2 {w : World} {B g n C : Nat} {xs : List Value} (h : w.ownsRow B 28 3 (.slice (some ⟨g, 0, none⟩) n C) n xs) {k : Nat} (hk : k < n) : ∃ u0 u1 u2, w.cell? ⟨g, k * 3, none⟩ = some u0 ∧ w.cell? ⟨g, k * 3 + 1, none⟩ = some u1 ∧ w.cell? ⟨g, k * 3 + 2, none⟩ = some u2 ∧
    w.frozen? ⟨g, k * 3, none⟩ = false ∧ w.frozen? ⟨g, k * 3 + 1, none⟩ = false ∧ w.frozen? ⟨g, k * 3 + 2, none⟩ = false := by
  have hl := h.1
  have get : ∀ j, j < n * 3 → ∃ u, xs[j]? = some u := fun j hj => ⟨xs[j]'(by omega), List.getElem?_eq_getElem _⟩
  obtain ⟨u0, e0⟩ := get (k * 3) (by omega)
  obtain ⟨u1, e1⟩ := get (k * 3 + 1) (by omega)
  obtain ⟨u2, e2⟩ := get (k * 3 + 2) (by omega)
  exact ⟨u0, u1, u2, own3_cell h e0, own3_cell h e1, own3_cell h e2, own3_frozen h _, own3_frozen h _, own3_frozen h _⟩
/-- what take leaves behind -/
theorem btake_fin {w wr w5 w6 : World} {B hb : Nat} {m0 m2 : Int} {es zs : List Value} {p pv : Option Addr} {i c L cl cv ne q g5 c5 g6 c6 : Nat} (hl : w.heap.size ≤ wr.heap.size) (hbk : Bk wr B hb (.slice pv ne cv) m2 es) (hown6 : w6.ownsRow B 23 1 (.slice (some ⟨g6, 0, none⟩) (ne + 2) c6) (ne + 2) (es ++ [Value.slice p i c, Value.slice (some ⟨g5, 0, none⟩) (i + 1) c5]))
    (hk6 : w6.heap[hb]? = some (.cells #[.slice pv ne cv, .int .i64 m2] 43 (0, 0))) (hzl : zs.length = i * 3) (ho : wr.ownsRow B 28 3 (.slice p i c) i zs) (hown5 : w5.ownsRow B 28 3 (.slice (some ⟨g5, 0, none⟩) (i + 1) c5) (i + 1) (zs ++ [.int .i64 (1000 + (q : Int)), .string ⟨#[]⟩, .int .i64 0]))
    (hat : ∀ j, j < i → At3 zs j (1000 + (q : Int)) ⟨#[]⟩ 0) (hm1 : i + 1 ≤ maxLen) (hs5 : wr.heap.size + 1 ≤ w5.heap.size) (k5 : ∀ b, b < wr.heap.size → p ≠ some ⟨b, 0, none⟩ → w5.heap[b]? = wr.heap[b]?) (hc5 : p = some ⟨g5, 0, none⟩ ∨ wr.heap.size ≤ g5 ∧ ∀ b, b < wr.heap.size → w5.heap[b]? = wr.heap[b]?)
    (k6 : ∀ b, b < w5.heap.size → (Value.slice pv ne cv).ownBlock ≠ some b → w6.heap[b]? = w5.heap[b]?) (hne : ∀ x ∈ es, ∀ g, x.ownBlock = some g → p ≠ some ⟨g, 0, none⟩) (b5 : Below B wr w5) (b6 : Below B w5 w6) (hbl : Below B w wr) (hch : Chg w wr (fun b => b = hb ∨ (Value.slice pv ne cv).ownBlock = some b ∨ (Value.slice p L cl).ownBlock = some b))
    (hm : 0 ≤ m2 ∧ m2 ≤ m0 + 6000000) (hneq : ne = es.length) (hq : q = ne / 2) (hev : ne % 2 = 0) (hwh : (Value.slice pv ne cv).ownBlock = some g6 ∨ g6 = w5.heap.size + 1) (hs6 : w5.heap.size + 1 ≤ w6.heap.size) :
    Bk (w6.setCell ⟨hb, 0, none⟩ (.slice (some ⟨g6, 0, none⟩) (ne + 2) c6)) B hb (.slice (some ⟨g6, 0, none⟩) (ne + 2) c6) m2 (es ++ [Value.slice p i c, Value.slice (some ⟨g5, 0, none⟩) (i + 1) c5]) ∧ Below B w (w6.setCell ⟨hb, 0, none⟩ (.slice (some ⟨g6, 0, none⟩) (ne + 2) c6)) ∧ Chg w (w6.setCell ⟨hb, 0, none⟩ (.slice (some ⟨g6, 0, none⟩) (ne + 2) c6)) (fun b => b = hb ∨ (Value.slice pv ne cv).ownBlock = some b ∨ (Value.slice p L cl).ownBlock = some b) ∧
      0 ≤ m2 ∧ m2 ≤ m0 + 6000000 ∧ (es ++ [Value.slice p i c, Value.slice (some ⟨g5, 0, none⟩) (i + 1) c5]).length ≤ ne + 2 ∧ (es ++ [Value.slice p i c, Value.slice (some ⟨g5, 0, none⟩) (i + 1) c5]).length % 2 = 0 ∧
      (∀ x ∈ es ++ [Value.slice p i c, Value.slice (some ⟨g5, 0, none⟩) (i + 1) c5], x ∈ es ∨ x.ownBlock = (Value.slice p L cl).ownBlock ∨ ∀ g, x.ownBlock = some g → w.heap.size ≤ g) ∧ ((Value.slice (some (⟨g6, 0, none⟩ : Addr)) (ne + 2) c6).ownBlock = (Value.slice pv ne cv).ownBlock ∨ ∀ g, (Value.slice (some (⟨g6, 0, none⟩ : Addr)) (ne + 2) c6).ownBlock = some g → w.heap.size ≤ g) := by
  have hpo : ∀ n c' : Nat, (Value.slice p n c').ownBlock = (Value.slice p i c).ownBlock := fun n c' => by cases p <;> rfl
  have hAF := app_full hown5 hzl hat hm1
  have hnv : ∀ b, (∃ cur, w5.heap[b]? = some (.cells cur 28 (0, 0))) → b < wr.heap.size → p ≠ some ⟨b, 0, none⟩ ∨ True → (Value.slice pv ne cv).ownBlock ≠ some b := fun b hb1 hb2 _ e => by
    obtain ⟨cur, hc⟩ := own_type hbk.own e
    obtain ⟨cur', hc'⟩ := hb1
    by_cases hp : p = some ⟨b, 0, none⟩
    · subst hp
      obtain ⟨cur2, hc2⟩ := own_type ho (g := b) rfl
      exact block_ne hc hc2 (by decide) rfl
    · rw [k5 b hb2 hp] at hc'
      exact block_ne hc hc' (by decide) rfl
  have hg5v : (Value.slice pv ne cv).ownBlock ≠ some g5 := fun e => by
    obtain ⟨cur, hc⟩ := own_type hbk.own e
    have hlt := (Array.getElem?_eq_some_iff.1 hc).1
    rcases hc5 with rfl | ⟨h1, _⟩
    · obtain ⟨cur2, hc2⟩ := own_type ho (g := g5) rfl
      exact block_ne hc hc2 (by decide) rfl
    · omega
  have hpv : ∀ b, p = some ⟨b, 0, none⟩ → (Value.slice pv ne cv).ownBlock ≠ some b := fun b hb1 e => by
    subst hb1
    obtain ⟨cur, hc⟩ := own_type hbk.own e
    obtain ⟨cur2, hc2⟩ := own_type ho (g := b) rfl
    exact block_ne hc hc2 (by decide) rfl
  obtain ⟨cur5, hcur5⟩ := own_type hown5 (g := g5) rfl
  have hlt5 := (Array.getElem?_eq_some_iff.1 hcur5).1
  -- the list itself
  have hfx5 : FullV w5 (.slice p i c) (1000 + (q : Int)) := by
    rcases hc5 with rfl | ⟨_, h⟩
    · exact hAF.2 c
    · exact (full_of_own ho hat (by omega)).keep (fun g _ hg => h g hg)
  have hpb : ∀ g, (Value.slice p i c).ownBlock = some g → p = some ⟨g, 0, none⟩ := fun g hg => by
    obtain ⟨cur, hc⟩ := own_type ho hg
    rcases ho.2 with ⟨e, _⟩ | ⟨g', cap, cur', e, _⟩
    · simp only [Value.slice.injEq] at e
      rw [e.1] at hg
      cases hg
    · simp only [Value.slice.injEq, true_and] at e
      rw [e.1] at hg ⊢
      simp only [Value.ownBlock, Option.some.injEq] at hg
      rw [hg]
  have hkx5 : ∀ g, (Value.slice p i c).ownBlock = some g → ∃ cur, w5.heap[g]? = some (.cells cur 28 (0, 0)) := fun g hg => by
    obtain ⟨cur, hc⟩ := own_type ho hg
    rcases hc5 with hp | ⟨_, h⟩
    · have := hpb g hg
      rw [hp] at this
      simp only [Option.some.injEq, Addr.mk.injEq, and_true] at this
      subst this
      exact ⟨_, hcur5⟩
    · exact ⟨cur, (h g (Array.getElem?_eq_some_iff.1 hc).1).trans hc⟩
  have hfx6 : FullV w6 (.slice p i c) (1000 + (q : Int)) := hfx5.keep (fun g hg hl => k6 g hl (hpv g (hpb g hg)))
  have hfy6 : FullV w6 (.slice (some ⟨g5, 0, none⟩) (i + 1) c5) (1000 + (q : Int)) := hAF.1.keep (fun g hg hl => k6 g hl (by
    simp only [Value.ownBlock, Option.some.injEq] at hg
    rw [← hg]
    exact hg5v))
  have hes5 : ∀ x ∈ es, ∀ g, x.ownBlock = some g → w6.heap[g]? = wr.heap[g]? := fun x hx g hg => by
    obtain ⟨cur, hc⟩ := hbk.kind x hx g hg
    have hlt := (Array.getElem?_eq_some_iff.1 hc).1
    exact (k6 g (by omega) (hbk.ne_hb.2.2 x hx g hg)).trans (k5 g hlt (hne x hx g hg))
  have hlen : (es ++ [Value.slice p i c, .slice (some ⟨g5, 0, none⟩) (i + 1) c5]).length = ne + 2 := by simp [hneq]
  refine ⟨Bk.put hbk.lo hk6 (by rw [hlen]; exact hown6) (fun j hj => ?_) (fun x hx g hg => ?_), ?_, ?_, hm.1, hm.2, by rw [hlen]; exact Nat.le_refl _, by rw [hlen]; omega, fun x hx => ?_, ?_⟩
  · rw [hlen] at hj
    by_cases h1 : j < es.length
    · rw [List.getElem_append_left h1]
      exact (hbk.full j h1).keep (fun g hg _ => hes5 _ (List.getElem_mem h1) g hg)
    · rw [List.getElem_append_right (by omega)]
      have hj2 : j = ne ∨ j = ne + 1 := by omega
      rcases hj2 with rfl | rfl
      · have e0 : ((j / 2 : Nat) : Int) = (q : Int) := by rw [hq]
        rw [e0]
        simp only [show j - es.length = 0 by omega, List.getElem_cons_zero]
        exact hfx6
      · have e0 : (((ne + 1) / 2 : Nat) : Int) = (q : Int) := by rw [hq]; congr 1; omega
        rw [e0]
        simp only [show ne + 1 - es.length = 1 by omega, List.getElem_cons_succ, List.getElem_cons_zero]
        exact hfy6
  · rcases List.mem_append.1 hx with hx | hx
    · obtain ⟨cur, hc⟩ := hbk.kind x hx g hg
      exact ⟨cur, (hes5 x hx g hg).trans hc⟩
    · simp only [List.mem_cons, List.not_mem_nil, or_false] at hx
      rcases hx with rfl | rfl
      · obtain ⟨cur, hc⟩ := hkx5 g hg
        exact ⟨cur, (k6 g (Array.getElem?_eq_some_iff.1 hc).1 (hpv g (hpb g hg))).trans hc⟩
      · simp only [Value.ownBlock, Option.some.injEq] at hg
        subst hg
        exact ⟨cur5, (k6 g5 hlt5 hg5v).trans hcur5⟩
  · exact ((hbl.trans b5).trans b6).setCell hbk.lo _
  · refine ⟨by have := hch.size; simp; omega, fun b h1 h2 => ?_⟩
    have hbhb : b ≠ hb := fun e => h2 (.inl e)
    refine (heap_setCell_other w6 ⟨hb, 0, none⟩ b _ hbhb).trans ?_
    refine (k6 b (by omega) (fun e => h2 (.inr (.inl e)))).trans ?_
    refine (k5 b (by omega) (fun e => h2 (.inr (.inr ?_)))).trans (hch.block b h1 h2)
    rw [e]
    rfl
  · rcases List.mem_append.1 hx with hx | hx
    · exact .inl hx
    · simp only [List.mem_cons, List.not_mem_nil, or_false] at hx
      rcases hx with rfl | rfl
      · exact .inr (.inl (hpo L cl).symm)
      · rcases hc5 with hp | ⟨h1, _⟩
        · right; left
          rw [hp]
          rfl
        · right; right
          intro g hg
          simp only [Value.ownBlock, Option.some.injEq] at hg
          omega
  · rcases hwh with h | h
    · left; rw [h]; rfl
    · right
      intro g hg
      simp only [Value.ownBlock, Option.some.injEq] at hg
      omega
set_option maxRecDepth 100000 in
theorem btake_any (B hb : Nat) (v : Value) (m : Int) (es : List Value) (p : Option Addr) (L c : Nat) (xs : List Value) (w : World) (h : Bk w B hb v m es) (hB : B ≤ w.heap.size) (hown : w.ownsRow B 28 3 (.slice p L c) L xs) (hL : L ≤ 4097) (hne : ∀ x ∈ es, x.ownBlock ≠ some hb ∧ ∀ g, x.ownBlock = some g → (Value.slice p L c).ownBlock ≠ some g)
    (h0 : 0 ≤ m) (h1 : m ≤ 1000000000000000) (hes : es.length ≤ 1099511627776) (hev : es.length % 2 = 0) : Calls Tryd.prog 16 #[.pointer (some ⟨hb, 0, none⟩), .slice p L c] w fun e w' => e = .returned (.tuple #[]) ∧ ∃ v' m' es', Bk w' B hb v' m' es' ∧ Below B w w' ∧ Chg w w' (fun b => b = hb ∨ v.ownBlock = some b ∨ (Value.slice p L c).ownBlock = some b) ∧
      0 ≤ m' ∧ m' ≤ m + 6000000 ∧ es'.length ≤ es.length + 2 ∧ es'.length % 2 = 0 ∧ (∀ x ∈ es', x ∈ es ∨ x.ownBlock = (Value.slice p L c).ownBlock ∨ ∀ g, x.ownBlock = some g → w.heap.size ≤ g) ∧ (v'.ownBlock = v.ownBlock ∨ ∀ g, v'.ownBlock = some g → w.heap.size ≤ g) := by
  obtain ⟨hcm, hLc⟩ := own3_capM hown
  obtain ⟨c0, c1, z0, z1, l0⟩ := h.cells
  have HK := Lib.hid h
  have HOW := Lib.hid hown
  have HNE := Lib.hid hne
  have HBB := Lib.hid hB
  obtain ⟨pv, cv, rfl⟩ : ∃ pv cv, v = .slice pv es.length cv := by
    rcases h.own.2 with ⟨e, e0⟩ | ⟨g, cap, cur, e, _⟩
    · exact ⟨none, 0, by rw [e, e0]⟩
    · exact ⟨_, _, e⟩
  obtain ⟨ne, hne'⟩ : ∃ ne, ne = es.length := ⟨_, rfl⟩
  have HNEQ := Lib.hid hne'
  rw [← hne'] at c0 hes hev ⊢
  have hq : Int.tdiv (ne : Int) 2 = ((ne / 2 : Nat) : Int) := by rw [Int.tdiv_eq_ediv_of_nonneg (by omega)]; omega
  obtain ⟨q, hqq⟩ : ∃ q, q = ne / 2 := ⟨_, rfl⟩
  rw [← hqq] at hq
  have HQQ := Lib.hid hqq
  have v1 : (c : Int) ≤ 9223372036854775807 := by unfold maxLen at hcm; omega
  have v2 : (L : Int) ≤ 4097 := by omega
  have v3 : (q : Int) ≤ 1099511627776 := by omega
  clear h hown hne hB hne' hqq
  go_enter Tryd.func16, Tryd.ntmps16
  obtain ⟨bb, hbb⟩ : ∃ bb, decide ((L : Int) + 70000 < (c : Int)) = bb := ⟨_, rfl⟩
  go_upto_if 22 with fail
  obtain ⟨wa, hwa⟩ : ∃ wa, wa = w.alloc (.cells #[.int .i64 (1000 + (q : Int)), .string ⟨#[]⟩, .int .i64 0] 28) := ⟨_, rfl⟩
  obtain ⟨N, hN⟩ : ∃ N, N = w.heap.size := ⟨_, rfl⟩
  have hBa : Below w.heap.size w wa := by rw [hwa]; exact (Below.refl _ _).alloc (Nat.le_refl _) _
  have hNa : wa.heap[N]? = some (.cells #[.int .i64 (1000 + (q : Int)), .string ⟨#[]⟩, .int .i64 0] 28 (0, 0)) := by rw [hwa, hN]; exact heap_alloc_new w _
  rw [← hwa, ← hN]
  have HBA := Lib.hid hBa
  have HNA := Lib.hid hNa
  have HNN := Lib.hid hN
  clear hwa hBa hNa hN
  go_cut [5] from 23 to 25 (fun s5 wx => ∃ n' : Nat, s5 = .int .i64 n' ∧ n' ≤ c ∧ n' ≤ L + 70000 ∧ wx = wa)
  case first =>
    cases bb
    · have hle : c ≤ L + 70000 := by simp at hbb; omega
      clear hbb
      go_wp2
      go_meet
      case rel => exact ⟨c, rfl, Nat.le_refl _, hle, rfl⟩
    · have hle : L + 70000 ≤ c := by simp at hbb; omega
      clear hbb
      go_wp2
      go_meet
      case rel => exact ⟨L + 70000, by rw [Int.natCast_add]; rfl, hle, Nat.le_refl _, rfl⟩
  case rest =>
    obtain ⟨n', rfl, hn1, hn2, rfl⟩ := hcut
    clear hbb c0 c1 z0 z1 l0
    have v4 : (n' : Int) ≤ 74097 := by omega
    have v5 : 0 ≤ 80 * (n' : Int) := by omega
    obtain ⟨m2, hm2⟩ : ∃ m2, m2 = m + 400 + 80 * (n' : Int) := ⟨_, rfl⟩
    have HKA := Lib.hid (HK.out.below HBA.out)
    have HOV : Hid (Calls Tryd.prog 18 #[.pointer (some ⟨hb, 0, none⟩), .int .i64 (80 * (n' : Int))] wc fun e w' => e = .returned (.bool (decide (33554432 < m2))) ∧ w' = wc.setCell ⟨hb, 1, none⟩ (.int .i64 m2)) := by
      rw [hm2]
      exact over_any B hb _ m _ es wc HKA.out h0 h1 v5 (by omega)
    obtain ⟨bo, hbo⟩ : ∃ bo, decide (33554432 < m2) = bo := ⟨_, rfl⟩
    rw [hbo] at HOV
    have HM2 : Hid (0 ≤ m2 ∧ m2 ≤ m + 6000000) := ⟨by omega, by omega⟩
    clear hm2
    obtain ⟨wb, hwb⟩ : ∃ wb, wb = wc.setCell ⟨hb, 1, none⟩ (.int .i64 m2) := ⟨_, rfl⟩
    obtain ⟨n1', n2', n3'⟩ := HKA.out.ne_hb
    have HKB : Hid (Bk wb B hb (.slice pv ne cv) m2 es) := by rw [hwb]; have := HKA.out.much m2; rw [show es.length = ne from (show ne = es.length from HNEQ.out).symm] at this; exact this
    have HBB2 : Hid (Below B w wb) := by rw [hwb]; exact (HBA.out.mono HBB.out).setCell HK.out.lo _
    have HCH : Hid (Chg w wb (fun b => b = hb ∨ (Value.slice pv ne cv).ownBlock = some b ∨ (Value.slice p L c).ownBlock = some b)) := by rw [hwb]; exact ((Chg.refl _ _).below HBA.out).set (.inl rfl) _ _
    have hNhb : N ≠ hb := by
      have := (Array.getElem?_eq_some_iff.1 HK.out.blk).1
      have := HNN.out
      omega
    have HNB : Hid (wb.heap[N]? = some (.cells #[.int .i64 (1000 + (q : Int)), .string ⟨#[]⟩, .int .i64 0] 28 (0, 0))) := by
      show _ = _
      rw [hwb]
      exact (heap_setCell_other wc ⟨hb, 1, none⟩ N _ hNhb).trans HNA.out
    have hob : wb.ownsRow B 28 3 (.slice p L c) L xs := by
      rw [hwb]
      refine ownsRow_setCell_other (own3_keep HOW.out HBA.out) (fun e => ?_) _
      obtain ⟨cur, hc⟩ := own_type HOW.out e
      exact block_ne hc HK.out.blk (by decide) rfl
    obtain ⟨ys, hys⟩ := own3_x hob n' hn1
    have HYS := Lib.hid hys
    have HSZ : Hid (w.heap.size ≤ wb.heap.size) := HCH.out.size
    rw [← hwb] at HOV
    clear hwb n1' n2' n3' hob hys
    go_wp2_with fail
    refine HOV.out.mono ?_
    rintro e w' ⟨rfl, hw'⟩
    obtain rfl := hw'.symm
    clear HOV HNA
    clear hbo
    cases bo
    · go_wp2
      go_loopw [7] (fun iv wr => ∃ (i : Nat) (zs : List Value), iv = .int .i64 i ∧ i ≤ n' ∧ wr.ownsRow B 28 3 (.slice p n' c) n' zs ∧ (∀ j, j < i → At3 zs j (1000 + (q : Int)) ⟨#[]⟩ 0) ∧ Bk wr B hb (.slice pv ne cv) m2 es ∧ Below B w wr ∧ Chg w wr (fun b => b = hb ∨ (Value.slice pv ne cv).ownBlock = some b ∨ (Value.slice p L c).ownBlock = some b) ∧ wr.heap[N]? = some (.cells #[.int .i64 (1000 + (q : Int)), .string ⟨#[]⟩, .int .i64 0] 28 (0, 0))) (fun iv _ => n' - (intOf iv).toNat)
      case atStart => exact ⟨0, ys, rfl, Nat.zero_le _, HYS.out, fun j h => absurd h (Nat.not_lt_zero _), HKB.out, HBB2.out, HCH.out, HNB.out⟩
      case round =>
        clear HYS HKB HBB2 HCH HNB
        obtain ⟨i, zs, rfl, hi, hown, hat, hbk, hbl, hch, hnb⟩ := hrel
        have HO := Lib.hid hown
        have HAT := Lib.hid hat
        have HBK := Lib.hid hbk
        have HBL := Lib.hid hbl
        have HC := Lib.hid hch
        have HN := Lib.hid hnb
        clear hown hat hbk hbl hch
        by_cases hlt : i < n'
        · obtain ⟨g, cap, hpe, _⟩ := HO.out.form (by omega)
          simp only [Value.slice.injEq, true_and] at hpe
          obtain ⟨rfl, rfl⟩ := hpe
          have d0 : wr.cell? ⟨N, 0, none⟩ = some (.int .i64 (1000 + (q : Int))) := by simp [World.cell?, hnb]
          have d1 : wr.cell? ⟨N, 1, none⟩ = some (.string ⟨#[]⟩) := by simp [World.cell?, hnb]
          have d2 : wr.cell? ⟨N, 2, none⟩ = some (.int .i64 0) := by simp [World.cell?, hnb]
          obtain ⟨u0, u1, u2, e0, e1, e2, y0, y1, y2⟩ := own3_at2 HO.out hlt
          have v6 : (i : Int) < (n' : Int) := by omega
          have hgB : B ≤ g := (HO.out.lt g rfl).1
          have hgN : g < N := by have := (HOW.out.lt g rfl).2; have := HNN.out; omega
          obtain ⟨cur, hcur⟩ := own_type HO.out (g := g) rfl
          have hghb : g ≠ hb := block_ne hcur HBK.out.blk (by decide)
          have hgv : (Value.slice pv ne cv).ownBlock ≠ some g := fun e => by
            obtain ⟨cur', hc'⟩ := own_type HBK.out.own e
            exact block_ne hcur hc' (by decide) rfl
          have HS := Lib.hid (own3_setT HO.out i (1000 + (q : Int)) ⟨#[]⟩ 0)
          have hzl : zs.length = n' * 3 := HO.out.1
          have HAT2 : Hid (∀ j, j < i + 1 → At3 (set3 zs i (1000 + (q : Int)) ⟨#[]⟩ 0) j (1000 + (q : Int)) ⟨#[]⟩ 0) := fun j hj => by
            by_cases hji : j = i
            · subst hji; exact set3_self (by omega) _ _ _
            · exact set3_other hji _ _ _ (HAT.out j (by omega))
          have hgr := setT_grown wr g i (1000 + (q : Int)) ⟨#[]⟩ 0
          have HBK2 : Hid (Bk (setT wr g i (1000 + (q : Int)) ⟨#[]⟩ 0) B hb (.slice pv ne cv) m2 es) := HBK.out.keep (fun b hb1 hb2 => hgr.block b hb1 (fun e => by
            simp only [Option.some.injEq] at e
            subst e
            rcases hb2 with h | h | ⟨x, hx, h⟩
            · exact hghb h
            · exact hgv h
            · exact (HNE.out x hx).2 b h rfl))
          have HBL2 : Hid (Below B w (setT wr g i (1000 + (q : Int)) ⟨#[]⟩ 0)) := ((HBL.out.setCell hgB _).setCell hgB _).setCell hgB _
          have HC2 := Lib.hid (HC.out.grown hgr (fun b hb1 => .inl (.inr (.inr hb1))))
          have HN2 : Hid ((setT wr g i (1000 + (q : Int)) ⟨#[]⟩ 0).heap[N]? = some (.cells #[.int .i64 (1000 + (q : Int)), .string ⟨#[]⟩, .int .i64 0] 28 (0, 0))) :=
            (hgr.block N (Array.getElem?_eq_some_iff.1 hnb).1 (fun e => by simp only [Option.some.injEq] at e; omega)).trans hnb
          clear hgB hgN hcur hghb hgv hzl hgr hnb
          go_wp2
          go_roundw
          case rel => exact ⟨i + 1, _, by go_num, by omega, HS.out, HAT2.out, HBK2.out, HBL2.out, HC2.out, HN2.out⟩
          case measure => simp [intOf]; omega
        · have hin : i = n' := by omega
          subst hin
          obtain ⟨c0, c1, z0, z1, l0⟩ := HBK.out.cells
          have d0 : wr.cell? ⟨N, 0, none⟩ = some (.int .i64 (1000 + (q : Int))) := by simp [World.cell?, hnb]
          have d1 : wr.cell? ⟨N, 1, none⟩ = some (.string ⟨#[]⟩) := by simp [World.cell?, hnb]
          have d2 : wr.cell? ⟨N, 2, none⟩ = some (.int .i64 0) := by simp [World.cell?, hnb]
          have hdi : decide (i < i) = false := by simp
          clear hnb
          obtain ⟨i0, hi0, hz0', hz1', hz2'⟩ := info_parts infoTok
          obtain ⟨j0, hj0, hy0, hy1, hy2⟩ := info_parts info23
          have hm1 : i + 1 ≤ maxLen := by unfold maxLen; omega
          have hm3 : (i + 1) * 32 ≤ 140737488355328 := by omega
          have hBw : B ≤ wr.heap.size := by have := HBB.out; have := HC.out.size; omega
          have hBw2 := fun o : Obj => Nat.le_trans hBw (show wr.heap.size ≤ (wr.alloc o).heap.size by simp)
          have hOL : wr.ownsRow B 23 1 (.slice pv ne cv) ne es := by
            have := HBK.out.own
            rw [show es.length = ne from (show ne = es.length from HNEQ.out).symm] at this
            exact this
          have hhb := (Array.getElem?_eq_some_iff.1 HBK.out.blk).1
          have hpne : ∀ b, (∃ cur t, wr.heap[b]? = some (.cells cur t (0, 0)) ∧ t ≠ 28) → p ≠ some ⟨b, 0, none⟩ := by
            rintro b ⟨cur, t, h1, h2⟩ rfl
            obtain ⟨cur', h3⟩ := own_type HO.out (g := b) rfl
            exact block_ne h3 h1 (fun e => h2 e.symm) rfl
          have HF5 : Hid (∀ (wz w5 : World) (g5 : Nat) (o : Obj), wz.heap = (wr.alloc o).heap → Below B wr wz → (p = some ⟨g5, 0, none⟩ ∧ wz.grownBy w5 (some g5) ∨ g5 = wz.heap.size ∧ wz.grownBy w5 none) →
              (wr.heap.size + 1 ≤ w5.heap.size ∧ (∀ b, b < wr.heap.size → p ≠ some ⟨b, 0, none⟩ → w5.heap[b]? = wr.heap[b]?)) ∧ w5.ownsRow B 23 1 (.slice pv ne cv) ne es ∧ w5.heap[hb]? = some (.cells #[.slice pv ne cv, .int .i64 m2] 43 (0, 0)) ∧ Below B wr w5 ∧ (p = some ⟨g5, 0, none⟩ ∨ wr.heap.size ≤ g5 ∧ ∀ b, b < wr.heap.size → w5.heap[b]? = wr.heap[b]?)) := fun wz w5 g5 o hz hw hc => by
            obtain ⟨k1, k2⟩ := app1_keep hc
            have k3 : ∀ b, b < wr.heap.size → p ≠ some ⟨b, 0, none⟩ → w5.heap[b]? = wr.heap[b]? := fun b hb1 hb2 => by
              refine (k2 b (by rw [hz]; simp; omega) hb2).trans ?_
              rw [hz]
              exact heap_alloc_old wr _ hb1
            refine ⟨⟨by rw [hz] at k1; simpa using k1, k3⟩, own23_keep hOL (fun b hb1 => ?_), ?_, ?_, ?_⟩
            · obtain ⟨cur, hcur⟩ := own_type hOL hb1
              exact k3 b (hOL.lt b hb1).2 (hpne b ⟨cur, 23, hcur, by decide⟩)
            · exact (k3 hb hhb (hpne hb ⟨_, 43, HBK.out.blk, by decide⟩)).trans HBK.out.blk
            · rcases hc with ⟨hp5, hg⟩ | ⟨_, hg⟩
              · exact hw.grown hg (Nat.le_trans hBw hw.size) (fun b hb1 => by
                  simp only [Option.some.injEq] at hb1
                  subst hb1
                  have h3 := HO.out
                  rw [hp5] at h3
                  exact (h3.lt g5 rfl).1)
              · exact hw.grown hg (Nat.le_trans hBw hw.size) (fun b hb1 => by cases hb1)
            · rcases hc with ⟨hp5, hg⟩ | ⟨hg5, hg⟩
              · exact .inl hp5
              · refine .inr ⟨by rw [hg5, hz]; simp, fun b hb1 => ?_⟩
                refine (hg.block b (by rw [hz]; simp; omega) (by simp)).trans ?_
                rw [hz]
                exact heap_alloc_old wr _ hb1
          have hvhb : (Value.slice pv ne cv).ownBlock ≠ some hb := HBK.out.ne_hb.2.1
          have hm4 : ne + 2 ≤ maxLen := by unfold maxLen; omega
          have hNE2 : ∀ x ∈ es, ∀ g, x.ownBlock = some g → p ≠ some ⟨g, 0, none⟩ := fun x hx g hg e => (HNE.out x hx).2 g hg (by rw [e]; rfl)
          have hm5 : (ne + 2) * 24 ≤ 140737488355328 := by omega
          have HF6 : Hid (∀ (w5 wz w6 : World) (o : Obj), wz.heap = (w5.alloc o).heap → Below B w5 wz → B ≤ wz.heap.size → wz.grownBy w6 (Value.slice pv ne cv).ownBlock → w5.heap[hb]? = some (.cells #[.slice pv ne cv, .int .i64 m2] 43 (0, 0)) →
              (w5.heap.size + 1 ≤ w6.heap.size ∧ (∀ b, b < w5.heap.size → (Value.slice pv ne cv).ownBlock ≠ some b → w6.heap[b]? = w5.heap[b]?)) ∧ w6.heap[hb]? = some (.cells #[.slice pv ne cv, .int .i64 m2] 43 (0, 0)) ∧ w6.cell? ⟨hb, 0, none⟩ = some (.slice pv ne cv) ∧ w6.frozen? ⟨hb, 0, none⟩ = false ∧ Below B w5 w6) := fun w5 wz w6 o hz hw hBz hg h5 => by
            have k3 : ∀ b, b < w5.heap.size → (Value.slice pv ne cv).ownBlock ≠ some b → w6.heap[b]? = w5.heap[b]? := fun b hb1 hb2 => by
              refine (hg.block b (by rw [hz]; simp; omega) (fun e => hb2 e.symm)).trans ?_
              rw [hz]
              exact heap_alloc_old w5 _ hb1
            have k4 := (k3 hb (Array.getElem?_eq_some_iff.1 h5).1 hvhb).trans h5
            exact ⟨⟨by have := hg.size; rw [hz] at this; simpa using this, k3⟩, k4, by simp [World.cell?, k4], by simp [World.frozen?, k4], hw.grown hg hBz (fun b hb1 => (hOL.lt b hb1).1)⟩
          go_wp2_with fail
          go_region_law (first | (refine step_app1 rfl _ _ rfl B i0 hi0 hz0' hz1' hz2' p i c zs rfl (by first | exact HO.out | exact World.ownsRow.alloc HO.out _) ⟨wr.heap.size, 0, none⟩ 1 [.int .i64 (1000 + (q : Int)), .string ⟨#[]⟩, .int .i64 0] rfl rfl (fun j u h => lit_at wr _ rfl _ _ j u h) (ones3 _ _ _) hm1 hm3 (hBw2 _) _ rfl ?_; intro g5 c5 w5 hown5 hcase5; have hq5 := HF5.out _ w5 g5 _ (by rfl) (by repeat (first | exact Below.refl _ _ | apply Below.drew | apply below_drewN | refine Below.alloc ?_ hBw _)) hcase5; have hL5 := hq5.2.1; have hk5 := hq5.2.2.1; have e5 : w5.cell? ⟨hb, 0, none⟩ = some (.slice pv ne cv) := (by simp [World.cell?, hk5]); have l5 : hb < w5.heap.size := (by have := hq5.1.1; omega); have hB50 : B ≤ w5.heap.size := (by have := hq5.1.1; omega); have hB5 : ∀ o : Obj, B ≤ (w5.alloc o).heap.size := fun o => (by have := hq5.1.1; simp; omega)) | (refine step_append_lies _ rfl _ _ 41 rfl B 23 j0 (.slice none 0 0) 1 24 Tryd.underlying41 hj0 hy0 hy1 hy2 rfl (by decide) (.slice pv ne cv) ne es rfl (by first | exact hL5 | exact World.ownsRow.alloc hL5 _) ⟨w5.heap.size, 0, none⟩ 2 2 [.slice p i c, .slice (some ⟨g5, 0, none⟩) (i + 1) c5] rfl rfl (fun j u h => lit_at w5 _ rfl _ _ j u h) (by intro u hu; simp only [List.mem_cons, List.not_mem_nil, or_false] at hu; rcases hu with rfl | rfl <;> rfl) (by decide) hm4 hm5 (hB5 _) (w5.heap.size + 1) (by simp) ?_; intro g6 c6 w6 hown6 hgr6 hwh6 hlt6; have hq6 := HF6.out w5 _ w6 _ (by rfl) (by repeat (first | exact Below.refl _ _ | apply Below.drew | apply below_drewN | refine Below.alloc ?_ hB50 _)) (hB5 _) hgr6 hk5; have e6 := hq6.2.2.1; have y6 := hq6.2.2.2.1))
          all_goals
            first | go_end0 | refine bodyPost_ret (v := .tuple #[]) (by simp [results, Tryd.results16, go_sem]) rfl ?_
          all_goals
            refine ⟨rfl, .slice (some ⟨g6, 0, none⟩) (ne + 2) c6, m2, es ++ [.slice p i c, .slice (some ⟨g5, 0, none⟩) (i + 1) c5], ?_⟩
            exact btake_fin (hl := HC.out.size) HBK.out hown6 hq6.2.1 HO.out.1 HO.out hown5 HAT.out hm1 hq5.1.1 hq5.1.2 hq5.2.2.2.2 hq6.1.2 hNE2 hq5.2.2.2.1 hq6.2.2.2.2 HBL.out HC.out HM2.out HNEQ.out HQQ.out hev hwh6 hq6.1.1
    · go_wp2
      first | go_end0 | refine bodyPost_ret (v := .tuple #[]) (by simp [results, Tryd.results16, go_sem]) rfl ?_
      exact ⟨rfl, _, m2, es, HKB.out, HBB2.out, HCH.out, HM2.out.1, HM2.out.2, by have := HNEQ.out; omega, by have := HNEQ.out; omega, fun x hx => .inl hx, .inl rfl⟩
end Go.Proofs.YtdafnkfnaknoiaaDoor
namespace Go.Proofs.YtdafnkfnaknoiaaDoor
open Go Go.RowKit
set_option maxHeartbeats 8000000
set_option linter.unusedVariables false
set_option linter.unusedSimpArgs false
attribute [local go_sem ↓] run_eql_T run_neq_T
theorem own23_cell {w : World} {B : Nat} {v : Value} {n : Nat} {xs : List Value} (h : w.ownsRow B 23 1 v n xs) {i : Nat} (hi : i < n) : ∃ g cap, v = .slice (some ⟨g, 0, none⟩) n cap ∧ ∃ x, xs[i]? = some x ∧ w.cell? ⟨g, i, none⟩ = some x := by
  obtain ⟨g, cap, hv, _⟩ := h.form (by omega)
  have hl := h.1
  have hx : xs[i]? = some (xs[i]'(by omega)) := List.getElem?_eq_getElem _
  refine ⟨g, cap, hv, _, hx, ?_⟩
  have := h.cells (g := g) (by rw [hv]; rfl) i _ hx
  rw [Addr.add_lit] at this
  simpa using this
set_option maxRecDepth 100000 in
theorem whole_any (B hb : Nat) (v : Value) (m : Int) (es : List Value) (w : World) (h : Bk w B hb v m es) (hes : es.length ≤ 4398046511104) : Calls Tryd.prog 17 #[.pointer (some ⟨hb, 0, none⟩)] w fun e w' => e = .returned (.bool true) ∧ Below w.heap.size w w' := by
  obtain ⟨c0, c1, z0, z1, l0⟩ := h.cells
  have HK := Lib.hid h
  obtain ⟨pv, cv, rfl⟩ : ∃ pv cv, v = .slice pv es.length cv := by
    rcases h.own.2 with ⟨e, e0⟩ | ⟨g, cap, cur, e, _⟩
    · exact ⟨none, 0, by rw [e, e0]⟩
    · exact ⟨_, _, e⟩
  obtain ⟨ne, hne⟩ : ∃ ne, ne = es.length := ⟨_, rfl⟩
  have HNE := Lib.hid hne
  rw [← hne] at c0 hes
  have v1 : (ne : Int) ≤ 4398046511104 := by omega
  clear h hne c1 z0 z1
  go_enter Tryd.func17, Tryd.ntmps17
  go_wp2
  go_loopw [3] (fun iv wr => ∃ i : Nat, iv = .int .i64 i ∧ i ≤ ne ∧ Below w.heap.size w wr) (fun iv _ => ne - (intOf iv).toNat)
  case atStart => exact ⟨0, rfl, Nat.zero_le _, Below.refl _ _⟩
  case round =>
    obtain ⟨i, rfl, hi, hbw⟩ := hrel
    have HB := Lib.hid hbw
    clear hbw
    have HKW := Lib.hid (HK.out.below HB.out)
    obtain ⟨d0, d1, y0, y1, l1⟩ := HKW.out.cells
    rw [show es.length = ne from (show ne = es.length from HNE.out).symm] at d0
    clear c0 d1 y0 y1
    by_cases hlt : i < ne
    · have hiE : i < es.length := by rw [← show ne = _ from HNE.out]; exact hlt
      obtain ⟨gv, capv, hpe, x, hx, hcx⟩ := own23_cell HKW.out.own hiE
      rw [show es.length = ne from (show ne = es.length from HNE.out).symm] at hpe
      simp only [Value.slice.injEq, true_and] at hpe
      obtain ⟨rfl, rfl⟩ := hpe
      have hfx := HKW.out.full i hiE
      rw [List.getElem?_eq_getElem hiE] at hx
      obtain rfl := Option.some.inj hx
      obtain ⟨p, n, c, hxe, hnm, hf⟩ := hfx
      rw [hxe] at hcx
      have HF := Lib.hid hf
      have v2 : (i : Int) < (ne : Int) := by omega
      have v3 : (n : Int) ≤ 9223372036854775807 := by unfold maxLen at hnm; omega
      have hq : Int.tdiv (i : Int) 2 = ((i / 2 : Nat) : Int) := by rw [Int.tdiv_eq_ediv_of_nonneg (by omega)]; omega
      obtain ⟨q, hqq⟩ : ∃ q, q = i / 2 := ⟨_, rfl⟩
      rw [← hqq] at hq HF
      have v4 : (q : Int) ≤ 4398046511104 := by omega
      clear hx hf hxe hqq
      obtain ⟨wa, hwa⟩ : ∃ wa, wa = wr := ⟨_, rfl⟩
      rw [← hwa] at HF HB d0 hcx l1
      rw [← hwa]
      have hlg := lt_of_cell hcx
      clear hwa HKW
      go_wp2
      go_loopw [4] (fun jv wx => ∃ j k : Nat, jv = .int .i64 j ∧ j ≤ n ∧ wx = wa.drewN k) (fun jv _ => n - (intOf jv).toNat)
      case atStart => exact ⟨0, 0, rfl, Nat.zero_le _, rfl⟩
      case round =>
        obtain ⟨j, k, rfl, hj, rfl⟩ := hrel
        by_cases hjl : j < n
        · obtain ⟨g, rfl, f0, f1, f2⟩ := HF.out j hjl
          have v5 : (j : Int) < (n : Int) := by omega
          have hte := teq_self (1000 + (q : Int)) ⟨#[]⟩ 0
          go_wp2
          go_roundw
          case rel => exact ⟨j + 1, _, by go_num, by omega, rfl⟩
          case measure => simp [intOf]; omega
        · have v5 : ¬ (j : Int) < (n : Int) := by omega
          have d5 : decide (j < n) = false := by simp; omega
          go_wp2
          go_roundw
          case rel => exact ⟨i + 1, by go_num, by omega, below_drewN HB.out _⟩
          case measure => simp [intOf]; omega
    · have v2 : ¬ (i : Int) < (ne : Int) := by omega
      have d2 : decide (i < ne) = false := by simp; omega
      go_wp2
      go_ret
      exact ⟨rfl, HB.out⟩
end Go.Proofs.YtdafnkfnaknoiaaDoor
namespace Go.Proofs.YtdafnkfnaknoiaaDoor
open Go Go.RowKit
set_option maxHeartbeats 8000000
set_option linter.unusedVariables false
set_option linter.unusedSimpArgs false
/-- a text's tokens twice: each in memory of its own -/
def TwoPost (w : World) (e : Ending) (w' : World) : Prop := Below w.heap.size w w' ∧ ∃ (L : List Tk) (p q : Option Addr) (c d : Nat), e = .returned (.tuple #[.slice p L.length c, .slice q L.length d, .bool true]) ∧ L.length ≤ 4097 ∧
  w'.ownsRow w.heap.size 28 3 (.slice p L.length c) L.length (tkCells L) ∧ w'.ownsRow w.heap.size 28 3 (.slice q L.length d) L.length (tkCells L)
theorem own_slice {w : World} {B : Nat} {v : Value} {L : List Tk} (h : w.ownsRow B 28 3 v L.length (tkCells L)) : ∃ p c, v = .slice p L.length c := by
  rcases h.2 with ⟨e, e0⟩ | ⟨g, cap, cur, e, _⟩
  · exact ⟨none, 0, by rw [e, e0]⟩
  · exact ⟨_, _, e⟩
theorem scanned_any (T : ByteArray) (w : World) (he : Errs w) (hT : T.size ≤ 140737488355328) : Calls Tryd.prog 15 #[.string T] w (TwoPost w) := by
  have HS1 : Hid (Calls Tryd.prog 9 #[.string T] w (ScanPost (scanL T.data.toList) w)) := scan_any T w he
  have HS2 : Hid (∀ wx, Calls Tryd.prog 25 #[.string T] wx (ScanPost (scanL T.data.toList) wx)) := fun wx => refScan_any T hT wx
  have hlen := fun M => scanL_len (l := T.data.toList) (M := M)
  obtain ⟨X, hX⟩ : ∃ X, X = scanL T.data.toList := ⟨_, rfl⟩
  rw [← hX] at HS1 HS2 hlen
  have HLEN := Lib.hid hlen
  clear hX he hlen
  go_enter Tryd.func15, Tryd.ntmps15
  go_wp2_with fail
  refine HS1.out.mono ?_
  rintro e w1 ⟨hb1, h1⟩
  have HB1 := Lib.hid hb1
  rcases X with ⟨E, q⟩ | M
  · obtain ⟨hE, rfl⟩ := h1
    clear hb1 hE
    go_wp2_with fail
    refine (HS2.out _).mono ?_
    rintro e w2 ⟨hb2, hE2, rfl⟩
    have HB2 : Hid (Below w.heap.size w w2) := HB1.out.trans (hb2.mono HB1.out.size)
    have HEQ : Hid (∀ wx, Calls Tryd.prog 19 #[.slice none 0 0, .slice none 0 0] wx fun e w' => e = .returned (.bool true) ∧ Below wx.heap.size wx w') := fun wx => eqToks_same none none 0 0 [] wx (fun i h => absurd h (Nat.not_lt_zero _)) (fun i h => absurd h (Nat.not_lt_zero _)) (by simp)
    clear hb2 hE2
    go_wp2_with (go_at_call 19; refine (HEQ.out _).mono ?_; rintro e w3 ⟨rfl, hb3⟩)
    have HB3 : Hid (Below w.heap.size w w3) := HB2.out.trans (hb3.mono HB2.out.size)
    go_ret3
    exact ⟨HB3.out, [], none, none, 0, 0, rfl, by simp, World.ownsRow_nil _ _ _ _, World.ownsRow_nil _ _ _ _⟩
  · obtain ⟨v1, rfl, ho1⟩ := h1
    obtain ⟨q1, d1, rfl, ht1⟩ := own_tokAt ho1
    have HO1 := Lib.hid ho1
    have HT1 := Lib.hid ht1
    have hml := HLEN.out M rfl
    have hm2 : (M.map toT).length = M.length := by simp
    clear hb1 ho1 ht1
    go_wp2_with fail
    refine (HS2.out _).mono ?_
    rintro e w2 ⟨hb2, v2, rfl, ho2⟩
    obtain ⟨q2, d2, rfl, ht2⟩ := own_tokAt ho2
    have HB2 : Hid (Below w.heap.size w w2) := HB1.out.trans (hb2.mono HB1.out.size)
    have HO2 := Lib.hid (own3_keep HO1.out hb2)
    have HT2 := Lib.hid (Joins.ownsRow_le ho2 HB1.out.size)
    have HML := Lib.hid hml
    have HEQ : Hid (Calls Tryd.prog 19 #[.slice q1 M.length d1, .slice q2 M.length d2] w2 fun e w' => e = .returned (.bool true) ∧ Below w2.heap.size w2 w') := by
      have h := eqToks_same q1 q2 d1 d2 (M.map toT) w2 (HT1.out.below hb2) ht2 (by omega)
      rw [hm2] at h
      exact h
    clear hb2 ho2 ht2 hm2 hml
    go_wp2_with (go_at_call 19; refine HEQ.out.mono ?_; rintro e w3 ⟨rfl, hb3⟩)
    have HB3 : Hid (Below w.heap.size w w3) := HB2.out.trans (hb3.mono HB2.out.size)
    go_ret3
    exact ⟨HB3.out, M, q1, q2, d1, d2, rfl, HML.out, own3_keep HO2.out hb3, own3_keep HT2.out hb3⟩
end Go.Proofs.YtdafnkfnaknoiaaDoor
namespace Go.Proofs.YtdafnkfnaknoiaaDoor
open Go Go.RowKit
set_option maxHeartbeats 8000000
set_option linter.unusedVariables false
set_option linter.unusedSimpArgs false
theorem own_keepT {w w' : World} {B : Nat} {e : TypeId} {size : Nat} {v : Value} {n : Nat} {xs : List Value} (h : w.ownsRow B e size v n xs) (hk : ∀ g, v.ownBlock = some g → w'.heap[g]? = w.heap[g]?) : w'.ownsRow B e size v n xs := by
  refine ⟨h.1, ?_⟩
  rcases h.2 with h0 | ⟨g, cap, cur, rfl, h1, h2, h3⟩
  · exact .inl h0
  · exact .inr ⟨g, cap, cur, rfl, h1, (hk g rfl).trans h2, h3⟩
/-- lists that lie in two rows, each of the same tokens in memory of its own -/
structure Gt (w : World) (B : Nat) (G H : Value) (gs hs : List Value) (vB : Value) (esB : List Value) : Prop where
  gown : w.ownsRow B 23 1 G gs.length gs
  hown : w.ownsRow B 23 1 H gs.length hs
  apart : ∀ g, G.ownBlock = some g → H.ownBlock ≠ some g
  ent : ∀ k, k < gs.length → ∃ (L : List Tk) (p q : Option Addr) (c d : Nat), gs[k]? = some (.slice p L.length c) ∧ hs[k]? = some (.slice q L.length d) ∧ L.length ≤ 4097 ∧ w.ownsRow B 28 3 (.slice p L.length c) L.length (tkCells L) ∧ w.ownsRow B 28 3 (.slice q L.length d) L.length (tkCells L)
  dist : ∀ (k k' : Nat), k < k' → ∀ (x y : Value), gs[k]? = some x → gs[k']? = some y → ∀ g, x.ownBlock = some g → y.ownBlock ≠ some g
  gB : ∀ x ∈ esB, ∀ g, x.ownBlock = some g → ∀ y ∈ gs, y.ownBlock ≠ some g
  vg : ∀ g, vB.ownBlock = some g → G.ownBlock ≠ some g ∧ H.ownBlock ≠ some g
theorem Gt.keep {w w' : World} {B : Nat} {G H : Value} {gs hs : List Value} {vB : Value} {esB : List Value} (h : Gt w B G H gs hs vB esB) (k28 : ∀ (g : Nat) (cur : Array Value), w.heap[g]? = some (Obj.cells cur 28 (0, 0)) → w'.heap[g]? = w.heap[g]?) (kG : ∀ g, G.ownBlock = some g → w'.heap[g]? = w.heap[g]?) (kH : ∀ g, H.ownBlock = some g → w'.heap[g]? = w.heap[g]?) : Gt w' B G H gs hs vB esB := by
  refine ⟨own_keepT h.gown kG, own_keepT h.hown kH, h.apart, fun k hk => ?_, h.dist, h.gB, h.vg⟩
  obtain ⟨L, p, q, c, d, h1, h2, h3, h4, h5⟩ := h.ent k hk
  refine ⟨L, p, q, c, d, h1, h2, h3, own_keepT h4 (fun g hg => ?_), own_keepT h5 (fun g hg => ?_)⟩
  · obtain ⟨cur, hc⟩ := own_type h4 hg
    exact k28 g cur hc
  · obtain ⟨cur, hc⟩ := own_type h5 hg
    exact k28 g cur hc
theorem Gt.below {w w' : World} {B : Nat} {G H : Value} {gs hs : List Value} {vB : Value} {esB : List Value} (h : Gt w B G H gs hs vB esB) (hb : Below w.heap.size w w') : Gt w' B G H gs hs vB esB :=
  h.keep (fun g cur hc => hb.block g (Array.getElem?_eq_some_iff.1 hc).1) (fun g hg => hb.block g (h.gown.lt g hg).2) (fun g hg => hb.block g (h.hown.lt g hg).2)
theorem Gt.gs_lt {w : World} {B : Nat} {G H : Value} {gs hs : List Value} {vB : Value} {esB : List Value} (h : Gt w B G H gs hs vB esB) : ∀ y ∈ gs, ∀ g, y.ownBlock = some g → g < w.heap.size := by
  intro y hy g hg
  obtain ⟨k, hk, rfl⟩ := List.mem_iff_getElem.1 hy
  obtain ⟨L, p, q, c, d, h1, _, _, h4, _⟩ := h.ent k hk
  rw [List.getElem?_eq_getElem hk] at h1
  rw [Option.some.inj h1] at hg
  exact (h4.lt g hg).2
/-- two lists more, behind their rows -/
theorem Gt.push {w w' : World} {B : Nat} {G H G' H' : Value} {gs hs : List Value} {vB : Value} {esB : List Value} (h : Gt w B G H gs hs vB esB) (S0 : Nat) (L : List Tk) (p q : Option Addr) (c d : Nat) (hL : L.length ≤ 4097)
    (k28 : ∀ (g : Nat) (cur : Array Value), w.heap[g]? = some (Obj.cells cur 28 (0, 0)) → w'.heap[g]? = w.heap[g]?) (ho : w.ownsRow B 28 3 (.slice p L.length c) L.length (tkCells L)) (ho2 : w.ownsRow B 28 3 (.slice q L.length d) L.length (tkCells L))
    (hG : w'.ownsRow B 23 1 G' (gs.length + 1) (gs ++ [.slice p L.length c])) (hH : w'.ownsRow B 23 1 H' (gs.length + 1) (hs ++ [.slice q L.length d])) (hap : ∀ g, G'.ownBlock = some g → H'.ownBlock ≠ some g)
    (hfresh : ∀ g, (Value.slice p L.length c).ownBlock = some g → S0 ≤ g) (hold : ∀ y ∈ gs, ∀ g, y.ownBlock = some g → g < S0) (hes : ∀ x ∈ esB, ∀ g, x.ownBlock = some g → g < S0) (hvg : ∀ g, vB.ownBlock = some g → G'.ownBlock ≠ some g ∧ H'.ownBlock ≠ some g) :
    Gt w' B G' H' (gs ++ [.slice p L.length c]) (hs ++ [.slice q L.length d]) vB esB := by
  have hlen : (gs ++ [Value.slice p L.length c]).length = gs.length + 1 := by simp
  have hhl : hs.length = gs.length := by have := h.hown.1; omega
  have k3 : ∀ {v : Value} {M : List Tk}, w.ownsRow B 28 3 v M.length (tkCells M) → w'.ownsRow B 28 3 v M.length (tkCells M) := fun hx => own_keepT hx (fun g hg => by
    obtain ⟨cur, hc⟩ := own_type hx hg
    exact k28 g cur hc)
  refine ⟨by rw [hlen]; exact hG, by rw [hlen]; exact hH, hap, fun k hk => ?_, fun k k' hkk x y hx hy g hg => ?_, fun x hx g hg y hy => ?_, hvg⟩
  · rw [hlen] at hk
    by_cases hkl : k < gs.length
    · obtain ⟨L', p', q', c', d', h1, h2, h3, h4, h5⟩ := h.ent k hkl
      exact ⟨L', p', q', c', d', by rw [List.getElem?_append_left hkl]; exact h1, by rw [List.getElem?_append_left (by omega)]; exact h2, h3, k3 h4, k3 h5⟩
    · obtain rfl : k = gs.length := by omega
      exact ⟨L, p, q, c, d, by simp, by rw [← hhl]; simp, hL, k3 ho, k3 ho2⟩
  · have hk'l : k' < gs.length + 1 := by
      have := (List.getElem?_eq_some_iff.1 hy).1
      omega
    rw [List.getElem?_append_left (by omega)] at hx
    by_cases hkl : k' < gs.length
    · rw [List.getElem?_append_left hkl] at hy
      exact h.dist k k' hkk x y hx hy g hg
    · obtain rfl : k' = gs.length := by omega
      simp at hy
      subst hy
      intro e
      have h1 := hfresh g e
      have h2 := hold x (List.mem_of_getElem? hx) g hg
      omega
  · rcases List.mem_append.1 hy with hy | hy
    · exact h.gB x hx g hg y hy
    · rw [List.mem_singleton] at hy
      subst hy
      intro e
      have h1 := hfresh g e
      have h2 := hes x hx g hg
      omega
theorem Gt.nil {w : World} {B : Nat} {vB : Value} {esB : List Value} : Gt w B (.slice none 0 0) (.slice none 0 0) [] [] vB esB :=
  ⟨World.ownsRow_nil _ _ _ _, World.ownsRow_nil _ _ _ _, (fun g h => by cases h), (fun k h => absurd h (Nat.not_lt_zero _)), (fun k k' _ x y hx => by simp at hx), (fun x _ g _ y hy => by cases hy), (fun g _ => ⟨by simp [Value.ownBlock], by simp [Value.ownBlock]⟩)⟩
theorem Bk.es_lt {w : World} {B hb : Nat} {v : Value} {m : Int} {es : List Value} (h : Bk w B hb v m es) : ∀ x ∈ es, ∀ g, x.ownBlock = some g → g < w.heap.size := fun x hx g hg => by
  obtain ⟨cur, hc⟩ := h.kind x hx g hg
  exact (Array.getElem?_eq_some_iff.1 hc).1
theorem Bk.fresh (w : World) (B : Nat) (hB : B ≤ w.heap.size) : Bk (w.alloc (.cells #[.slice none 0 0, .int .i64 0] 43)) B w.heap.size (.slice none 0 0) 0 [] :=
  ⟨hB, heap_alloc_new w _, World.ownsRow_nil _ _ _ _, (fun i h => absurd h (Nat.not_lt_zero _)), (fun x hx => by cases hx)⟩
end Go.Proofs.YtdafnkfnaknoiaaDoor
namespace Go.Proofs.YtdafnkfnaknoiaaDoor
open Go Go.RowKit
set_option maxHeartbeats 8000000
set_option linter.unusedVariables false
set_option linter.unusedSimpArgs false
/-- behind the first append -/
theorem Gt.first {w3 wx w4 : World} {B : Nat} {G H vB : Value} {gs hs esB : List Value} (h : Gt w3 B G H gs hs vB esB) {o : Obj} (hx : wx.heap = (w3.alloc o).heap) (hg4 : wx.grownBy w4 G.ownBlock) :
    (∀ b, b < w3.heap.size → G.ownBlock ≠ some b → w4.heap[b]? = w3.heap[b]?) ∧ w3.heap.size + 1 ≤ w4.heap.size ∧ w4.ownsRow B 23 1 H gs.length hs := by
  have k : ∀ b, b < w3.heap.size → G.ownBlock ≠ some b → w4.heap[b]? = w3.heap[b]? := fun b hb hne => by
    refine (hg4.block b (by rw [hx]; simp; omega) (fun e => hne e.symm)).trans ?_
    rw [hx]
    exact heap_alloc_old w3 _ hb
  refine ⟨k, by have := hg4.size; rw [hx] at this; simpa using this, own_keepT h.hown (fun g hg => k g (h.hown.lt g hg).2 (fun e => h.apart g e hg))⟩
/-- behind both -/
theorem Gt.both {w3 wx w4 wy w5 : World} {B g4 c4 g5 c5 : Nat} {G H vB : Value} {gs hs esB : List Value} (h : Gt w3 B G H gs hs vB esB) (hB : B ≤ w3.heap.size) {o o' : Obj} (hx : wx.heap = (w3.alloc o).heap) (hwx : Below B w3 wx) (hg4 : wx.grownBy w4 G.ownBlock) (L : List Tk) (p q : Option Addr) (c d : Nat)
    (ho4 : w4.ownsRow B 23 1 (.slice (some ⟨g4, 0, none⟩) (gs.length + 1) c4) (gs.length + 1) (gs ++ [.slice p L.length c])) (hw4 : G.ownBlock = some g4 ∨ g4 = w3.heap.size + 1)
    (hy : wy.heap = (w4.alloc o').heap) (hwy : Below B w4 wy) (hg5 : wy.grownBy w5 H.ownBlock) (ho5 : w5.ownsRow B 23 1 (.slice (some ⟨g5, 0, none⟩) (gs.length + 1) c5) (gs.length + 1) (hs ++ [.slice q L.length d])) (hw5 : H.ownBlock = some g5 ∨ g5 = w4.heap.size + 1)
    (S0 : Nat) (hS : S0 ≤ w3.heap.size) (hL : L.length ≤ 4097) (ho : w3.ownsRow B 28 3 (.slice p L.length c) L.length (tkCells L)) (ho2 : w3.ownsRow B 28 3 (.slice q L.length d) L.length (tkCells L))
    (hfresh : ∀ g, (Value.slice p L.length c).ownBlock = some g → S0 ≤ g) (hold : ∀ y ∈ gs, ∀ g, y.ownBlock = some g → g < S0) (hes : ∀ x ∈ esB, ∀ g, x.ownBlock = some g → g < S0) (hvl : ∀ g, vB.ownBlock = some g → g < w3.heap.size) :
    Gt w5 B (.slice (some ⟨g4, 0, none⟩) (gs.length + 1) c4) (.slice (some ⟨g5, 0, none⟩) (gs.length + 1) c5) (gs ++ [.slice p L.length c]) (hs ++ [.slice q L.length d]) vB esB ∧ Below B w3 w5 ∧ ∀ b, b < w3.heap.size → G.ownBlock ≠ some b → H.ownBlock ≠ some b → w5.heap[b]? = w3.heap[b]? := by
  obtain ⟨k4, s4, hH4⟩ := h.first hx hg4
  have k5 : ∀ b, b < w4.heap.size → H.ownBlock ≠ some b → w5.heap[b]? = w4.heap[b]? := fun b hb hne => by
    refine (hg5.block b (by rw [hy]; simp; omega) (fun e => hne e.symm)).trans ?_
    rw [hy]
    exact heap_alloc_old w4 _ hb
  have s5 : w4.heap.size + 1 ≤ w5.heap.size := by have := hg5.size; rw [hy] at this; simpa using this
  have hg4H : H.ownBlock ≠ some g4 := fun e => by
    rcases hw4 with h4 | h4
    · exact h.apart g4 h4 e
    · have := (h.hown.lt g4 e).2
      omega
  have hg4l : g4 < w4.heap.size := (ho4.lt g4 rfl).2
  have kk : ∀ b, b < w3.heap.size → G.ownBlock ≠ some b → H.ownBlock ≠ some b → w5.heap[b]? = w3.heap[b]? := fun b hb h1 h2 => (k5 b (by omega) h2).trans (k4 b hb h1)
  have k28 : ∀ (g : Nat) (cur : Array Value), w3.heap[g]? = some (Obj.cells cur 28 (0, 0)) → w5.heap[g]? = w3.heap[g]? := fun g cur hc => by
    refine kk g (Array.getElem?_eq_some_iff.1 hc).1 (fun e => ?_) (fun e => ?_)
    · obtain ⟨cur', hc'⟩ := own_type h.gown e
      exact block_ne hc hc' (by decide) rfl
    · obtain ⟨cur', hc'⟩ := own_type h.hown e
      exact block_ne hc hc' (by decide) rfl
  have hG5 : w5.ownsRow B 23 1 (.slice (some ⟨g4, 0, none⟩) (gs.length + 1) c4) (gs.length + 1) (gs ++ [.slice p L.length c]) := own_keepT ho4 (fun g hg => by
    simp only [Value.ownBlock, Option.some.injEq] at hg
    subst hg
    exact k5 g4 hg4l hg4H)
  refine ⟨h.push S0 L p q c d hL k28 ho ho2 hG5 ho5 (fun g hg e => ?_) hfresh hold hes (fun g hg => ⟨fun e => ?_, fun e => ?_⟩), ?_, kk⟩
  · simp only [Value.ownBlock, Option.some.injEq] at hg e
    rcases hw5 with h5 | h5
    · exact hg4H (by rw [h5, e, hg])
    · omega
  · simp only [Value.ownBlock, Option.some.injEq] at e
    have h1 := hvl g hg
    rcases hw4 with h4 | h4
    · exact (h.vg g hg).1 (by rw [h4, e])
    · omega
  · simp only [Value.ownBlock, Option.some.injEq] at e
    have h1 := hvl g hg
    rcases hw5 with h5 | h5
    · exact (h.vg g hg).2 (by rw [h5, e])
    · omega
  · have b4 : Below B w3 w4 := hwx.grown hg4 (Nat.le_trans hB hwx.size) (fun b hb => (h.gown.lt b hb).1)
    exact b4.trans (hwy.grown hg5 (Nat.le_trans (Nat.le_trans hB b4.size) hwy.size) (fun b hb => (h.hown.lt b hb).1))
/-- a book's own number is written anew -/
theorem Gt.set {w : World} {B hd o : Nat} {G H vB : Value} {gs hs esB : List Value} (h : Gt w B G H gs hs vB esB) {cs : Array Value} (hk : w.heap[hd]? = some (.cells cs 43 (0, 0))) (u : Value) : Gt (w.setCell ⟨hd, o, none⟩ u) B G H gs hs vB esB := by
  have hoth : ∀ g, g ≠ hd → (w.setCell ⟨hd, o, none⟩ u).heap[g]? = w.heap[g]? := fun g hg => heap_setCell_other w ⟨hd, o, none⟩ g _ hg
  refine h.keep (fun g cur hc => hoth g (block_ne hc hk (by decide))) (fun g hg => ?_) (fun g hg => ?_)
  · obtain ⟨cur, hc⟩ := own_type h.gown hg
    exact hoth g (block_ne hc hk (by decide))
  · obtain ⟨cur, hc⟩ := own_type h.hown hg
    exact hoth g (block_ne hc hk (by decide))
theorem Bk.setOther {w : World} {B hb hd o : Nat} {v : Value} {m : Int} {es : List Value} (h : Bk w B hb v m es) {cs : Array Value} (hk : w.heap[hd]? = some (.cells cs 43 (0, 0))) (hne : hb ≠ hd) (u : Value) : Bk (w.setCell ⟨hd, o, none⟩ u) B hb v m es := by
  have hoth : ∀ g, g ≠ hd → (w.setCell ⟨hd, o, none⟩ u).heap[g]? = w.heap[g]? := fun g hg => heap_setCell_other w ⟨hd, o, none⟩ g _ hg
  refine h.keep (fun g _ hg => hoth g ?_)
  rcases hg with rfl | hg | ⟨x, hx, hg⟩
  · exact hne
  · obtain ⟨cur, hc⟩ := own_type h.own hg
    exact block_ne hc hk (by decide)
  · obtain ⟨cur, hc⟩ := h.kind x hx g hg
    exact block_ne hc hk (by decide)
end Go.Proofs.YtdafnkfnaknoiaaDoor
