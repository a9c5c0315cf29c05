/- The document's own answer's reader of rows: its sheet, endCell, endRow. -/
import Derived.Test.YtkficmbkoinjjaaDoorB1
namespace Go.Proofs.YtkficmbkoinjjaaDoor
open Go Go.RowKit
set_option maxHeartbeats 4000000
set_option linter.unusedVariables false
set_option linter.unusedSimpArgs false
/-- the number of a state -/
def stN : St → Int
  | .start => 0
  | .plain => 1
  | .quoted _ => 2
  | .shut _ => 3
/-- what the sheet owns -/
structure ShO (w0 w : World) (S : Nat) (rs : List (List Cell × Value)) (C : List Cell) (cell : Cell) (vr vc vb : Value) : Prop where
  rows : Rows w (S + 1) vr rs
  row : OutS w (S + 1) vc C
  cel : Out w (S + 1) vb cell
  apart : ∀ x ∈ rs, x.2.ownBlock = none ∨ x.2.ownBlock ≠ vc.ownBlock
  hS : w0.heap.size ≤ S
  g : Below w0.heap.size w0 w
theorem grown_trans {w w1 w2 : World} {row : Option Nat} (h : w.grownBy w1 row) (k : w1.grownBy w2 row) : w.grownBy w2 row := ⟨k.os.trans h.os, k.tape.trans h.tape, k.output.trans h.output, Nat.le_trans h.size k.size, fun i hi hr => (k.block i (Nat.lt_of_lt_of_le hi h.size) hr).trans (h.block i hi hr)⟩
theorem ShO.aside {w0 w w' : World} {S : Nat} {rs : List (List Cell × Value)} {C : List Cell} {cell : Cell} {vr vc vb : Value} (h : ShO w0 w S rs C cell vr vc vb) (hg : w.grownBy w' (some S)) : ShO w0 w' S rs C cell vr vc vb :=
  ⟨h.rows.aside hg (Nat.lt_succ_self S), own_aside h.row hg (Nat.lt_succ_self S), own_aside h.cel hg (Nat.lt_succ_self S), h.apart, h.hS, h.g.grown hg h.g.size (fun k hk => by have := h.hS; simp only [Option.some.injEq] at hk; omega)⟩
theorem ShO.set {w0 w : World} {S : Nat} {rs : List (List Cell × Value)} {C : List Cell} {cell : Cell} {vr vc vb : Value} (h : ShO w0 w S rs C cell vr vc vb) (j : Nat) (u : Value) : ShO w0 (w.setCell ⟨S, j, none⟩ u) S rs C cell vr vc vb := h.aside (grown_set _ _ _ _)
theorem ShO.drew {w0 w : World} {S : Nat} {rs : List (List Cell × Value)} {C : List Cell} {cell : Cell} {vr vc vb : Value} (h : ShO w0 w S rs C cell vr vc vb) : ShO w0 w.drew S rs C cell vr vc vb := h.aside ⟨rfl, rfl, rfl, Nat.le_refl _, fun _ _ _ => rfl⟩
theorem ShO.nocell {w0 w : World} {S : Nat} {rs : List (List Cell × Value)} {C : List Cell} {cell : Cell} {vr vc vb : Value} (h : ShO w0 w S rs C cell vr vc vb) : ShO w0 w S rs C [] vr vc (.slice none 0 0) := ⟨h.rows, h.row, Out.nil _ _, h.apart, h.hS, h.g⟩
theorem ShO.cell {w0 w u w4 : World} {S g cap : Nat} {rs : List (List Cell × Value)} {C : List Cell} {cell c : Cell} {vr vc vb : Value} (h : ShO w0 w S rs C cell vr vc vb) (hg0 : w.grownBy u none)
    (hown : w4.ownsRow (S + 1) 9 1 (.slice (some ⟨g, 0, none⟩) (C.length + 1) cap) (C.length + 1) (strs C ++ [.string ⟨c.toArray⟩])) (hgr : u.grownBy w4 vc.ownBlock) (hwh : vc.ownBlock = some g ∨ g = w.heap.size + 1) : ShO w0 w4 S rs (C ++ [c]) cell vr (.slice (some ⟨g, 0, none⟩) (C.length + 1) cap) vb := by
  have h0 : ∀ {t sz n : Nat} {v : Value} {xs : List Value}, w.ownsRow (S + 1) t sz v n xs → u.ownsRow (S + 1) t sz v n xs := fun {t sz n v xs} hx => World.ownsRow.kept hx hg0 (by cases hv : v.ownBlock <;> simp)
  refine ⟨⟨World.ownsRow.kept (h0 h.rows.own) hgr (own_apart h.rows.own h.row (by decide)), fun x hx => World.ownsRow.kept (h0 (h.rows.each x hx)) hgr (h.apart x hx)⟩, ?_, World.ownsRow.kept (h0 h.cel) hgr (own_apart h.cel h.row (by decide)), fun x hx => ?_, h.hS, ?_⟩
  · show World.ownsRow _ _ _ _ _ _ _
    rw [← strs_snoc, show (C ++ [c]).length = C.length + 1 by simp]
    exact hown
  · cases hv : x.2.ownBlock with
    | none => exact .inl rfl
    | some k =>
      refine .inr fun e => ?_
      simp only [Value.ownBlock, Option.some.injEq] at e
      rcases hwh with hw | hw
      · rcases h.apart x hx with h1 | h1
        · rw [hv] at h1; cases h1
        · rw [hv, hw, e] at h1; exact h1 rfl
      · have := (World.ownsRow.lt (h.rows.each x hx) k hv).2
        omega
  · have h1 : Below w0.heap.size w0 u := h.g.grown hg0 h.g.size (fun k hk => by cases hk)
    exact h1.grown hgr h1.size (fun k hk => by have := (World.ownsRow.lt h.row k hk).1; have := h.hS; omega)
/-- the sheet at S -/
structure Sh (w0 w : World) (S : Nat) (rs : List (List Cell × Value)) (C : List Cell) (cell : Cell) (n : Int) (vr vc vb : Value) : Prop where
  c0 : w.cell? ⟨S, 0, none⟩ = some vr
  c1 : w.cell? ⟨S, 1, none⟩ = some vc
  c2 : w.cell? ⟨S, 2, none⟩ = some vb
  c3 : w.cell? ⟨S, 3, none⟩ = some (.int .i64 n)
  z : ∀ i, w.frozen? ⟨S, i, none⟩ = false
  o : ShO w0 w S rs C cell vr vc vb
theorem Sh.lt {w0 w : World} {S : Nat} {rs : List (List Cell × Value)} {C : List Cell} {cell : Cell} {n : Int} {vr vc vb : Value} (h : Sh w0 w S rs C cell n vr vc vb) : S < w.heap.size := lt_of_cell h.c0
theorem kept_at {w u w2 : World} {o : Obj} {row : Option Nat} {S : Nat} (hg : u.grownBy w2 row) (hr : ∀ k, row = some k → S + 1 ≤ k) (hS : S < w.heap.size) (hu : u.heap = (w.alloc o).heap) : w2.heap[S]? = w.heap[S]? := by
  have h1 : S < u.heap.size := by rw [hu]; simp; omega
  rw [hg.block S h1 (fun e => by have := hr S e.symm; omega), hu]
  show (w.heap.push o)[S]? = _
  rw [Array.getElem?_push, if_neg (by omega)]
set_option maxRecDepth 100000 in
theorem endCell_any (w0 w : World) (S : Nat) (rs : List (List Cell × Value)) (C : List Cell) (cell : Cell) (n : Int) (vr vc vb : Value) (h : Sh w0 w S rs C cell n vr vc vb) (hC : C.length ≤ 100000) (hcl : cell.length ≤ 100000) :
    Calls Tryd.prog 23 #[.pointer (some ⟨S, 0, none⟩)] w fun e w' => e = .returned (.tuple #[]) ∧ ∃ vc', Sh w0 w' S rs (C ++ [cell]) [] 0 vr vc' (.slice none 0 0) := by
  obtain ⟨i9, hi9, s0, s1, s2⟩ := info_parts infoStr
  obtain ⟨rp, rc, rfl⟩ := own_slice h.o.row
  obtain ⟨bp, bc, rfl⟩ := own_slice h.o.cel
  have H := Lib.hid h
  obtain ⟨c0, c1, c2, c3, z, _⟩ := h
  have z1 := z 1
  have z2 := z 2
  have z3 := z 3
  have hcv := run_str H.out.o.cel.inn.1 bc
  have hcvd : (convert 57 9 (.slice bp cell.length bc)).run Tryd.prog w.drew = .ok (.string ⟨cell.toArray⟩) w.drew := run_str (w := w.drew) H.out.o.cel.inn.1 bc
  have hm1 : C.length + 1 ≤ maxLen := by unfold maxLen; omega
  have hm2 : (C.length + 1) * 16 ≤ 140737488355328 := by omega
  have hlt := H.out.lt
  have HSW : Hid (∀ o : Obj, S + 1 ≤ (w.alloc o).heap.size) := fun o => (by simp; omega)
  have HOW : Hid (w.ownsRow (S + 1) 9 1 (.slice rp C.length rc) C.length (strs C)) := H.out.o.row
  have HRW : Hid (∀ k, (Value.slice rp C.length rc).ownBlock = some k → S + 1 ≤ k) := fun k hk => (World.ownsRow.lt HOW.out k hk).1
  clear z
  go_enter Tryd.func23, Tryd.ntmps23
  go_wp2
  go_region_law (first | (refine step_append_lies _ rfl _ _ 27 rfl (S + 1) 9 i9 (.string ⟨#[]⟩) 1 16 Tryd.underlying27 hi9 s0 s1 s2 rfl (by decide) (.slice rp C.length rc) C.length (strs C) rfl (by first | exact HOW.out.alloc _ | exact (HOW.out.alloc _).drew) ⟨w.heap.size, 0, none⟩ 1 1 [.string ⟨cell.toArray⟩] rfl rfl (fun j u h => lit_cells w _ _ j u h) (by intro u hu; simp at hu; subst hu; rfl) (by decide) hm1 hm2 (HSW.out _) (w.heap.size + 1) (by simp) ?_; intro g4 cap4 w4 hown4 hgr4 hwh4 hlt4; have hk := kept_at (w := w) (S := S) (o := .cells #[.string ⟨cell.toArray⟩] 9) hgr4 HRW.out H.out.lt rfl; have k1 := (World.cell?_of_block (a := ⟨S, 1, none⟩) hk).trans H.out.c1; have y1 := (World.frozen?_of_block (a := ⟨S, 1, none⟩) hk).trans (H.out.z 1)))
  all_goals
    have hO4 : ShO w0 w4 S rs (C ++ [cell]) cell vr (.slice (some ⟨g4, 0, none⟩) (C.length + 1) cap4) (.slice bp cell.length bc) := by
      first
        | exact H.out.o.cell (World.grownBy_alloc w _ none) hown4 hgr4 hwh4
        | exact H.out.o.cell (u := (w.alloc (.cells #[.string ⟨cell.toArray⟩] 9)).drew) ⟨rfl, rfl, rfl, (World.grownBy_alloc w _ none).size, (World.grownBy_alloc w _ none).block⟩ hown4 hgr4 hwh4
    have m0 : w4.cell? ⟨S, 0, none⟩ = some vr := (World.cell?_of_block (a := ⟨S, 0, none⟩) hk).trans H.out.c0
    have m2 : w4.cell? ⟨S, 2, none⟩ = some (.slice bp cell.length bc) := (World.cell?_of_block (a := ⟨S, 2, none⟩) hk).trans H.out.c2
    have m3 : w4.cell? ⟨S, 3, none⟩ = some (.int .i64 n) := (World.cell?_of_block (a := ⟨S, 3, none⟩) hk).trans H.out.c3
    have mz : ∀ i, w4.frozen? ⟨S, i, none⟩ = false := fun i => (World.frozen?_of_block (a := ⟨S, i, none⟩) hk).trans (H.out.z i)
    have mz2 := mz 2
    have mz3 := mz 3
    have HO4 := Lib.hid hO4
    have HMZ := Lib.hid mz
    clear hown4 hgr4 hwh4 hlt4 hk hO4 mz c0 c1 c2 c3 z1 z2 z3 hcv hcvd
    go_wp2
    first | go_end0 | refine bodyPost_ret (v := .tuple #[]) (by simp [results, Tryd.results23, go_sem]) rfl ?_
    refine ⟨rfl, .slice (some ⟨g4, 0, none⟩) (C.length + 1) cap4, by simp [go_sem, m0], by simp [go_sem, k1], by simp [go_sem, m2], by simp [go_sem, m3], fun i => by simp [go_sem, HMZ.out i], ?_⟩
    have h9 := HO4.out.nocell
    repeat (first | exact h9 | apply ShO.set | apply ShO.drew)
end Go.Proofs.YtkficmbkoinjjaaDoor
