/- Package csv's Split. -/
import Derived.Test.YtkficmbkoinjjaaGreatDoorR1
namespace Go.Proofs.YtkficmbkoinjjaaGreatDoor
open Go Go.RowKit
set_option maxHeartbeats 4000000
set_option linter.unusedVariables false
set_option linter.unusedSimpArgs false
/-- rows of one's own, each with cells of one's own -/
structure Rows (w : World) (B : Nat) (v : Value) (rs : List (List Cell × Value)) : Prop where
  own : w.ownsRow B 22 1 v rs.length (rs.map (·.2))
  each : ∀ x ∈ rs, OutS w B x.2 x.1
theorem Rows.nil (w : World) (B : Nat) : Rows w B (.slice none 0 0) [] := ⟨World.ownsRow_nil _ _ _ _, by simp⟩
theorem Rows.below {w w' : World} {B : Nat} {v : Value} {rs : List (List Cell × Value)} (h : Rows w B v rs) (hb : Below w.heap.size w w') : Rows w' B v rs := ⟨own_kept_any h.own hb, fun x hx => own_kept_any (h.each x hx) hb⟩
theorem Rows.aside {w w' : World} {B R : Nat} {v : Value} {rs : List (List Cell × Value)} (h : Rows w B v rs) (hg : w.grownBy w' (some R)) (hR : R < B) : Rows w' B v rs := ⟨own_aside h.own hg hR, fun x hx => own_aside (h.each x hx) hg hR⟩
theorem Rows.snoc {w w2 : World} {o : Obj} {B g cap : Nat} {v : Value} {rs : List (List Cell × Value)} {x : List Cell × Value} (h : Rows w B v rs) (hx : OutS w B x.2 x.1) (ho : w2.ownsRow B 22 1 (.slice (some ⟨g, 0, none⟩) (rs.length + 1) cap) (rs.length + 1) (rs.map (·.2) ++ [x.2])) (hg : (w.alloc o).grownBy w2 v.ownBlock) : Rows w2 B (.slice (some ⟨g, 0, none⟩) (rs.length + 1) cap) (rs ++ [x]) := by
  refine ⟨by simpa using ho, fun y hy => ?_⟩
  have hy1 : OutS w B y.2 y.1 := by
    rcases List.mem_append.1 hy with hy | hy
    · exact h.each y hy
    · rw [List.mem_singleton] at hy; subst hy; exact hx
  have hy2 : (w.alloc o).ownsRow B 9 1 y.2 y.1.length (strs y.1) := World.ownsRow.alloc hy1 _
  exact World.ownsRow.kept hy2 hg (own_apart hy1 h.own (by decide))
theorem own_base {w : World} {B B' : Nat} {ty : TypeId} {sz n : Nat} {v : Value} {xs : List Value} (h : w.ownsRow B ty sz v n xs) (hB : B' ≤ B) : w.ownsRow B' ty sz v n xs := by
  refine ⟨h.1, ?_⟩
  rcases h.2 with h2 | ⟨g, cap, cur, e, hg, h2⟩
  · exact .inl h2
  · exact .inr ⟨g, cap, cur, e, Nat.le_trans hB hg, h2⟩
theorem Rows.base {w : World} {B B' : Nat} {v : Value} {rs : List (List Cell × Value)} (h : Rows w B v rs) (hB : B' ≤ B) : Rows w B' v rs := ⟨own_base h.own hB, fun x hx => own_base (h.each x hx) hB⟩
def SplitIs (w : World) (l : List UInt8) (e : Ending) (w' : World) : Prop := Below w.heap.size w w' ∧ match (if 65536 < l.length then Sp.bad 2 0 else splitL l) with
  | .bad E at_ => e = .returned (.tuple #[.slice none 0 0, .int .i64 at_, .int .i64 E]) ∧ E ≠ 0
  | .ok rows => ∃ (rs : List (List Cell × Value)) (q : Option Addr) (d : Nat), rs.map (·.1) = rows ∧ e = .returned (.tuple #[.slice q rs.length d, .int .i64 0, .int .i64 0]) ∧ Rows w' w.heap.size (.slice q rs.length d) rs
set_option maxRecDepth 100000 in
theorem split_any (T : ByteArray) (w : World) : Calls Tryz.prog 8 #[.string T] w (SplitIs w T.data.toList) := by
  have HSZ : Hid (T.data.toList.length = T.size) := (Lib.size_eq T).symm
  obtain ⟨iR, hiR, r0, r1, r2⟩ := info_parts infoRow
  by_cases hlong : 65536 < T.size
  · have d1 : decide ((65536 : Int) < (T.size : Int)) = true := by simp; omega
    have HL := Lib.hid hlong
    clear hlong
    go_enter Tryz.func8, Tryz.ntmps8
    go_wp2
    first | go_ret3 | skip
    refine ⟨Below.refl _ _, ?_⟩
    rw [if_pos (by rw [HSZ.out]; exact HL.out)]
    exact ⟨rfl, by decide⟩
  · have d1 : decide ((65536 : Int) < (T.size : Int)) = false := by simp; omega
    go_enter Tryz.func8, Tryz.ntmps8
    go_wp2
    obtain ⟨w0, hw0⟩ : ∃ x, x = w.alloc (.cells #[.string T, .int .i64 0, .int .i64 0] 72) := ⟨_, rfl⟩
    have hb0 : Below w.heap.size w w0 := by rw [hw0]; exact (Below.refl _ _).alloc (Nat.le_refl _) _
    have hrd : Rd w0 w.heap.size T 0 0 := by rw [hw0]; refine ⟨?_, ?_, ?_, ?_, ?_⟩ <;> simp [go_sem]
    rw [← hw0]
    obtain ⟨R, hR⟩ : ∃ R, R = w.heap.size := ⟨_, rfl⟩
    rw [← hR] at hrd ⊢
    have HB0 := Lib.hid hb0
    have HRD := Lib.hid hrd
    have HRE := Lib.hid hR
    have HSZ0 : Hid (w0.heap.size = R + 1) := by show _ = _; rw [hw0, hR]; simp
    have HLN : Hid ((if 65536 < T.data.toList.length then Sp.bad 2 0 else splitL T.data.toList) = splitL T.data.toList) := by show _ = _; rw [if_neg (by rw [HSZ.out]; exact hlong)]
    clear hw0 hb0 hrd hR
    go_loopg [6] (T.size + 1) (fun g rv wr => ∃ (rs : List (List Cell × Value)) (a : Nat) (f : Int), Rows wr (R + 1) rv rs ∧ Aft w0 wr R T a f ∧ a ≤ T.size ∧ ((f = 0 ∧ rs.length ≤ a ∧ splitL T.data.toList = run (T.data.toList.drop a) (rs.map (·.1)) [] [] .start a ∧ g = T.size - a + 1) ∨ (f ≠ 0 ∧ splitL T.data.toList = .bad f a ∧ g = 0)))
    case atStart => exact ⟨[], 0, 0, Rows.nil _ _, Aft.refl HRD.out, Nat.zero_le _, .inl ⟨rfl, Nat.le_refl _, rfl, rfl⟩⟩
    case round =>
      obtain ⟨rs, a, f, hrw, haf, hle, hcase⟩ := hrel
      obtain ⟨rp, rc, rfl⟩ := own_slice hrw.own
      have HRW := Lib.hid hrw
      have HAF := Lib.hid haf
      obtain ⟨c0, c1, c2, z1, z2⟩ := haf.r
      have hRl := haf.r.lt
      have HBW : Hid (Below w.heap.size w wr) := HB0.out.grown haf.g HB0.out.size (fun k hk => by have := HRE.out; simp only [Option.some.injEq] at hk; omega)
      clear hrw haf
      rcases hcase with ⟨rfl, hrl, hsp, hg⟩ | ⟨hf, hsp, hg⟩
      · have HRL := Lib.hid hrl
        clear hrl
        have HSP := Lib.hid hsp
        clear hsp
        by_cases hlt : a < T.size
        · have hRW := row_any R T a wr HAF.out.r hlt (by omega)
          obtain ⟨rn, hrn⟩ : ∃ rn, rn = rs.length := ⟨_, rfl⟩
          have HRN := Lib.hid hrn
          rw [← hrn]
          have hm1 : rn + 1 ≤ maxLen := by have := HRL.out; unfold maxLen; omega
          have hm2 : (rn + 1) * 24 ≤ 140737488355328 := by have := HRL.out; omega
          clear hrn
          go_wp2_with fail
          refine hRW.mono ?_
          rintro e w2 ⟨v, C, a2, f2, rfl, hO2, hA2, hle2, hgt2, his⟩
          obtain ⟨vp, vc, rfl⟩ := own_slice hO2
          have HAF2 := Lib.hid (HAF.out.trans hA2)
          have HRW2 := Lib.hid (HRW.out.aside hA2.g (Nat.lt_succ_self R))
          have HO2 : Hid (OutS w2 (R + 1) (.slice vp C.length vc) C) := own_base hO2 hRl
          have HIS := Lib.hid his
          have HGT := Lib.hid hgt2
          have HLE2 := Lib.hid hle2
          have hR2 := HAF2.out.r.lt
          have HSW : Hid (∀ o : Obj, R + 1 ≤ (w2.alloc o).heap.size) := fun o => (by simp; omega)
          have OW2 : Hid (w2.ownsRow (R + 1) 22 1 (.slice rp rn rc) rn (rs.map (·.2))) := by have := HRW2.out.own; rw [← show rn = _ from HRN.out] at this; exact this
          clear hO2 hA2 hle2 hgt2 his c0 c1 c2 z1 z2 hRW
          go_wp2_with (at_builtin; refine wpList_append_lies _ rfl _ _ 26 rfl (R + 1) 22 iR (.slice none 0 0) 1 24 Tryz.underlying26 hiR r0 r1 r2 rfl (by decide) _ _ _ rfl (World.ownsRow.alloc OW2.out _) ⟨w2.heap.size, 0, none⟩ 1 1 [.slice vp C.length vc] rfl rfl (lit_cells w2 _ _) (by intro u hu; simp at hu; subst hu; rfl) (by decide) hm1 hm2 (HSW.out _) (w2.heap.size + 1) (by simp) ?_)
          intro g3 cap3 w3 hown3 hgr3 hwh3 hlt3
          have hal : Below w2.heap.size w2 (w2.alloc (.cells #[.slice vp C.length vc] 22)) := (Below.refl _ _).alloc (Nat.le_refl _) _
          have HAF3 : Hid (Aft w0 w3 R T a2 f2) := by
            have h1 := HAF2.out.below hal
            have hRb : w3.heap[R]? = (w2.alloc (.cells #[.slice vp C.length vc] 22)).heap[R]? := hgr3.block R h1.r.lt (fun e => by have := (World.ownsRow.lt OW2.out R e.symm).1; omega)
            refine ⟨⟨hgr3.os.trans h1.g.os, hgr3.tape.trans h1.g.tape, hgr3.output.trans h1.g.output, Nat.le_trans h1.g.size hgr3.size, fun i hi hr => (hgr3.block i (Nat.lt_of_lt_of_le hi h1.g.size) (fun e => by have := (World.ownsRow.lt OW2.out i e.symm).1; have := HRD.out.lt; have := HRE.out; have h9 : w0.heap.size = R + 1 := HSZ0.out; omega)).trans (h1.g.block i hi hr)⟩, ?_⟩
            exact ⟨(World.cell?_of_block (a := ⟨R, 0, none⟩) hRb).trans h1.r.c0, (World.cell?_of_block (a := ⟨R, 1, none⟩) hRb).trans h1.r.c1, (World.cell?_of_block (a := ⟨R, 2, none⟩) hRb).trans h1.r.c2, (World.frozen?_of_block (a := ⟨R, 1, none⟩) hRb).trans h1.r.z1, (World.frozen?_of_block (a := ⟨R, 2, none⟩) hRb).trans h1.r.z2⟩
          have HRW3 := Lib.hid (HRW2.out.snoc (x := (C, .slice vp C.length vc)) HO2.out (by rw [← show rn = _ from HRN.out]; exact hown3) (by rw [← show rn = _ from HRN.out]; exact hgr3))
          clear hown3 hgr3 hwh3 hlt3 hal hm1 hm2
          go_wp2
          go_roundg (if f2 = 0 then T.size - a2 + 1 else 0)
          case measure =>
            split
            · rename_i h0
              have := HGT.out h0
              have := HLE2.out
              omega
            · omega
          case rel =>
            refine ⟨rs ++ [(C, .slice vp C.length vc)], a2, f2, by rw [HRN.out]; exact HRW3.out, HAF3.out, HLE2.out, ?_⟩
            rcases HIS.out with ⟨h0, hC, hr⟩ | ⟨h0, hr⟩
            · rw [if_pos h0]
              exact .inl ⟨h0, by have := HGT.out h0; have := HRL.out; rw [List.length_append]; simp; omega, by rw [HSP.out, hr, List.map_append]; rfl, rfl⟩
            · rw [if_neg h0]
              exact .inr ⟨h0, by rw [HSP.out, hr], rfl⟩
        · have hae : a = T.size := by omega
          have hout : splitL T.data.toList = .ok (rs.map (·.1)) := by
            rw [HSP.out, List.drop_eq_nil_of_le (by rw [HSZ.out]; omega)]
            rfl
          have HOUT := Lib.hid hout
          clear hout
          have HRB := Lib.hid (HRW.out.base (B' := w.heap.size) (by have := HRE.out; omega))
          go_wp2
          first | go_ret3 | skip
          refine ⟨HBW.out, ?_⟩
          rw [HLN.out, HOUT.out]
          exact ⟨rs, rp, rc, rfl, rfl, HRB.out⟩
      · have HSP := Lib.hid hsp
        have df : (f == 0) = false := by simpa using hf
        have df2 : (f != 0) = true := by simpa using hf
        have HF := Lib.hid hf
        clear hsp hf
        go_wp2
        go_region
        go_wp2
        first | go_ret3 | skip
        refine ⟨by repeat (first | exact HBW.out | apply Below.drew), ?_⟩
        rw [HLN.out, HSP.out]
        exact ⟨rfl, HF.out⟩
end Go.Proofs.YtkficmbkoinjjaaGreatDoor
