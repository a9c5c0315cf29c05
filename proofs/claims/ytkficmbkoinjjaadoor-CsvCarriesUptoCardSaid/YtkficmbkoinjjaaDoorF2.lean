/- The document's own answer's reader of rows: endRow. -/
import Derived.Test.YtkficmbkoinjjaaDoorF1
namespace Go.Proofs.YtkficmbkoinjjaaDoor
open Go Go.RowKit
set_option maxHeartbeats 4000000
set_option linter.unusedVariables false
set_option linter.unusedSimpArgs false
theorem ShO.rowUp {w0 w u w4 : World} {S g cap : Nat} {rs : List (List Cell × Value)} {C : List Cell} {cell : Cell} {vr vc vb : Value} (h : ShO w0 w S rs C cell vr vc vb) (hg0 : w.grownBy u none)
    (hown : w4.ownsRow (S + 1) 27 1 (.slice (some ⟨g, 0, none⟩) (rs.length + 1) cap) (rs.length + 1) (rs.map (·.2) ++ [vc])) (hgr : u.grownBy w4 vr.ownBlock) : ShO w0 w4 S (rs ++ [(C, vc)]) [] cell (.slice (some ⟨g, 0, none⟩) (rs.length + 1) cap) (.slice none 0 0) vb := by
  have h0 : ∀ {t sz n : Nat} {v : Value} {xs : List Value}, w.ownsRow (S + 1) t sz v n xs → u.ownsRow (S + 1) t sz v n xs := fun {t sz n v xs} hx => World.ownsRow.kept hx hg0 (by cases hv : v.ownBlock <;> simp)
  refine ⟨⟨by simpa using hown, fun x hx => ?_⟩, OutS.nil _ _, World.ownsRow.kept (h0 h.cel) hgr (own_apart h.cel h.rows.own (by decide)), fun x hx => ?_, h.hS, ?_⟩
  · rcases List.mem_append.1 hx with hx | hx
    · exact World.ownsRow.kept (h0 (h.rows.each x hx)) hgr (own_apart (h.rows.each x hx) h.rows.own (by decide))
    · rw [List.mem_singleton] at hx
      subst hx
      exact World.ownsRow.kept (h0 h.row) hgr (own_apart h.row h.rows.own (by decide))
  · cases hv : x.2.ownBlock with
    | none => exact .inl rfl
    | some k => exact .inr (by simp [Value.ownBlock])
  · have h1 : Below w0.heap.size w0 u := h.g.grown hg0 h.g.size (fun k hk => by cases hk)
    exact h1.grown hgr h1.size (fun k hk => by have := (World.ownsRow.lt h.rows.own k hk).1; have := h.hS; omega)
set_option maxRecDepth 100000 in
theorem endRow_any (w0 w : World) (S : Nat) (rs : List (List Cell × Value)) (C : List Cell) (cell : Cell) (n : Int) (vr vc vb : Value) (h : Sh w0 w S rs C cell n vr vc vb) (hC : C.length ≤ 100000) (hcl : cell.length ≤ 100000) (hrl : rs.length ≤ 100000) :
    Calls Tryd.prog 24 #[.pointer (some ⟨S, 0, none⟩)] w fun e w' => e = .returned (.tuple #[]) ∧ ∃ vr' vc', Sh w0 w' S (rs ++ [(C ++ [cell], vc')]) [] [] 0 vr' (.slice none 0 0) (.slice none 0 0) := by
  obtain ⟨iR, hiR, r0, r1, r2⟩ := info_parts infoRow
  have hEC := endCell_any w0 w S rs C cell n vr vc vb h hC hcl
  obtain ⟨rp, rc, rfl⟩ := own_slice h.o.rows.own
  clear h
  go_enter Tryd.func24, Tryd.ntmps24
  go_wp2_with fail
  refine hEC.mono ?_
  rintro e w2 ⟨rfl, vc2, hsh⟩
  obtain ⟨cp, cc, rfl⟩ := own_slice hsh.o.row
  have H := Lib.hid hsh
  obtain ⟨c0, c1, c2, c3, z, _⟩ := hsh
  have z0 := z 0
  have z1 := z 1
  have hlt := H.out.lt
  have hm1 : rs.length + 1 ≤ maxLen := by unfold maxLen; omega
  have hm2 : (rs.length + 1) * 24 ≤ 140737488355328 := by omega
  have HSW : Hid (∀ o : Obj, S + 1 ≤ (w2.alloc o).heap.size) := fun o => (by simp; omega)
  have HOW : Hid (w2.ownsRow (S + 1) 27 1 (.slice rp rs.length rc) rs.length (rs.map (·.2))) := H.out.o.rows.own
  have HRW : Hid (∀ k, (Value.slice rp rs.length rc).ownBlock = some k → S + 1 ≤ k) := fun k hk => (World.ownsRow.lt HOW.out k hk).1
  obtain ⟨cn, hcn⟩ : ∃ cn, cn = (C ++ [cell]).length := ⟨_, rfl⟩
  have HCN := Lib.hid hcn
  rw [← hcn] at c1
  clear z hEC hcn
  go_wp2
  go_region_law (first | (refine step_append_lies _ rfl _ _ 22 rfl (S + 1) 27 iR (.slice none 0 0) 1 24 Tryd.underlying22 hiR r0 r1 r2 rfl (by decide) (.slice rp rs.length rc) rs.length (rs.map (·.2)) rfl (by first | exact HOW.out.alloc _ | exact (HOW.out.alloc _).drew) ⟨w2.heap.size, 0, none⟩ 1 1 [.slice cp cn cc] rfl rfl (fun j u h => lit_cells w2 _ _ j u h) (by intro u hu; simp at hu; subst hu; rfl) (by decide) hm1 hm2 (HSW.out _) (w2.heap.size + 1) (by simp) ?_; intro g4 cap4 w4 hown4 hgr4 hwh4 hlt4; have hk := kept_at (w := w2) (S := S) (o := .cells #[.slice cp cn cc] 27) hgr4 HRW.out H.out.lt rfl; have k1 := (World.cell?_of_block (a := ⟨S, 0, none⟩) hk).trans H.out.c0; have y1 := (World.frozen?_of_block (a := ⟨S, 0, none⟩) hk).trans (H.out.z 0)))
  all_goals
    have hO4 : ShO w0 w4 S (rs ++ [(C ++ [cell], .slice cp (C ++ [cell]).length cc)]) [] [] (.slice (some ⟨g4, 0, none⟩) (rs.length + 1) cap4) (.slice none 0 0) (.slice none 0 0) := by
      rw [show cn = _ from HCN.out] at hown4
      first
        | exact H.out.o.rowUp (World.grownBy_alloc w2 _ none) hown4 hgr4
        | exact H.out.o.rowUp (u := (w2.alloc (.cells #[.slice cp cn cc] 27)).drew) ⟨rfl, rfl, rfl, (World.grownBy_alloc w2 _ none).size, (World.grownBy_alloc w2 _ none).block⟩ hown4 hgr4
    have m1 : w4.cell? ⟨S, 1, none⟩ = some (.slice cp cn cc) := by rw [show cn = _ from HCN.out]; exact (World.cell?_of_block (a := ⟨S, 1, none⟩) hk).trans H.out.c1
    have m2 : w4.cell? ⟨S, 2, none⟩ = some (.slice none 0 0) := (World.cell?_of_block (a := ⟨S, 2, none⟩) hk).trans H.out.c2
    have m3 : w4.cell? ⟨S, 3, none⟩ = some (.int .i64 0) := (World.cell?_of_block (a := ⟨S, 3, none⟩) hk).trans H.out.c3
    have mz : ∀ i, w4.frozen? ⟨S, i, none⟩ = false := fun i => (World.frozen?_of_block (a := ⟨S, i, none⟩) hk).trans (H.out.z i)
    have mz1 := mz 1
    have HO4 := Lib.hid hO4
    have HMZ := Lib.hid mz
    clear hown4 hgr4 hwh4 hlt4 hk hO4 mz c0 c1 c2 c3 z0 z1
    go_wp2
    first | go_end0 | refine bodyPost_ret (v := .tuple #[]) (by simp [results, Tryd.results24, go_sem]) rfl ?_
    refine ⟨rfl, .slice (some ⟨g4, 0, none⟩) (rs.length + 1) cap4, .slice cp (C ++ [cell]).length cc, by simp [go_sem, k1], by simp [go_sem, m1], by simp [go_sem, m2], by simp [go_sem, m3], fun i => by simp [go_sem, HMZ.out i], ?_⟩
    have h9 := HO4.out
    repeat (first | exact h9 | apply ShO.set | apply ShO.drew)
end Go.Proofs.YtkficmbkoinjjaaDoor
