/- The law's own roomy. -/
import Derived.IntWalk
import Derived.Test.YtkficmbkoinjjaaGreatDoorD7
namespace Go.Proofs.YtkficmbkoinjjaaGreatDoor
open Go Go.RowKit
set_option maxHeartbeats 8000000
set_option linter.unusedVariables false
set_option linter.unusedSimpArgs false
/-- rows, as they lie; nil ones have no room -/
def RowsN (w : World) (p : Option Addr) (rows : List (List Cell)) : Prop := ∀ i (h : i < rows.length), ∃ b o q d, p = some ⟨b, o, none⟩ ∧ w.cell? ⟨b, o + i, none⟩ = some (.slice q rows[i].length d) ∧ CellsIn w q rows[i] ∧ (q = none → d = 0)
theorem RowsN.rowsIn {w : World} {p : Option Addr} {rows : List (List Cell)} (h : RowsN w p rows) : RowsIn w p rows := fun i hi => by
  obtain ⟨b, o, q, d, e, c, hc, _⟩ := h i hi
  exact ⟨b, o, q, d, e, c, hc⟩
theorem RowsN.nth {w : World} {p : Option Addr} {rows : List (List Cell)} (h : RowsN w p rows) {k : Nat} (hk : k < rows.length) : ∃ (r : List Cell) (b o : Nat) (q : Option Addr) (d : Nat), rows[k]? = some r ∧ p = some ⟨b, o, none⟩ ∧ w.cell? ⟨b, o + k, none⟩ = some (.slice q r.length d) ∧ CellsIn w q r ∧ (q = none → d = 0) := by
  obtain ⟨b, o, q, d, e, c, hc, h0⟩ := h k hk
  exact ⟨_, b, o, q, d, List.getElem?_eq_getElem hk, e, c, hc, h0⟩
/-- all marks -/
def wds : List Cell := (List.range 20).map wd
theorem wds_len : wds.length = 20 := rfl
theorem wds_get {k : Nat} (h : k < 20) : wds[k]? = some (wd k) := by simp [wds, h]
theorem wds_take {k : Nat} (h : k < 20) : wds.take (k + 1) = wds.take k ++ [wd k] := by rw [List.take_add_one, wds_get h]; rfl
/-- the front of a row, its room ending where the row ends -/
def cutv : Value → Value
  | .slice p n c => .slice p (n - 20) n
  | v => v
structure Rm (w0 w : World) (B : Nat) (A : List (List Cell)) (L V : Value) (rs : List (List Cell × Value)) : Prop where
  eq : rs.map (·.1) = A.map (· ++ wds)
  rows : Rows w B V rs
  lst : w.ownsRow B 22 1 L rs.length (rs.map fun x => cutv x.2)
  apart : L.ownBlock = none ∨ L.ownBlock ≠ V.ownBlock
  blw : Below B w0 w
theorem Rm.kept {w0 w w' : World} {B : Nat} {A : List (List Cell)} {L V : Value} {rs : List (List Cell × Value)} (h : Rm w0 w B A L V rs) (hB : B ≤ w.heap.size) (hb : Below w.heap.size w w') : Rm w0 w' B A L V rs :=
  ⟨h.eq, ⟨own_kept_any h.rows.own hb, fun x hx => own_kept_any (h.rows.each x hx) hb⟩, own_kept_any h.lst hb, h.apart, h.blw.trans (hb.mono hB)⟩
theorem lst_apart {w : World} {B k k' : Nat} {lp vp : Option Addr} {lc vc g c n' : Nat} {xs : List Value} (h : w.ownsRow B 22 1 (.slice lp k lc) k xs) (hap : (Value.slice lp k lc).ownBlock = none ∨ (Value.slice lp k lc).ownBlock ≠ (Value.slice vp k' vc).ownBlock) {H : Nat} (hH : w.heap.size < H) (hw : (Value.slice vp k' vc).ownBlock = some g ∨ g = H) :
    (Value.slice lp k lc).ownBlock = none ∨ (Value.slice lp k lc).ownBlock ≠ (Value.slice (some ⟨g, 0, none⟩) n' c).ownBlock := by
  rcases hw with e | e
  · rw [e] at hap; exact hap
  · cases hL : (Value.slice lp k lc).ownBlock with
    | none => exact .inl rfl
    | some x =>
      right
      intro e2
      have := (World.ownsRow.lt h x hL).2
      simp only [Value.ownBlock, Option.some.injEq] at e2
      omega
theorem lit_at {w : World} {l : List Value} {t : TypeId} {H : Nat} (hH : w.heap.size = H) : ∀ j u, l[j]? = some u → (w.alloc (.cells l.toArray t)).cell? ((⟨H, 0, none⟩ : Addr).add j) = some u := by
  subst hH
  exact lit_cells w l t
theorem single_any (w : World) (B : Nat) (hB : B ≤ w.heap.size) (c : Cell) : OutS (w.alloc (.cells #[.string ⟨c.toArray⟩] 9)) B (.slice (some ⟨w.heap.size, 0, none⟩) 1 1) [c] :=
  ⟨rfl, .inr ⟨w.heap.size, 1, _, rfl, hB, heap_alloc_new w _, Nat.le_refl _, by decide, rfl, rfl⟩⟩
theorem rows_lie {w : World} {B n d : Nat} {q : Option Addr} {xs : List Value} {rows : List (List Cell)} (h : w.ownsRow B 22 1 (.slice q n d) n xs) (hn : n = rows.length) (he : ∀ i (hi : i < rows.length), ∃ q d, xs[i]? = some (.slice q rows[i].length d) ∧ CellsIn w q rows[i]) : RowsIn w q rows := by
  intro i hi
  obtain ⟨q2, d2, hx, hc⟩ := he i hi
  rcases h.2 with ⟨e, e0⟩ | ⟨g, cap, cur, e, _⟩
  · omega
  · simp only [Value.slice.injEq] at e
    obtain ⟨rfl, _, rfl⟩ := e
    have := World.ownsRow.cells (g := g) h rfl i _ hx
    rw [Addr.add_lit] at this
    exact ⟨g, 0, q2, d2, rfl, this, hc⟩
theorem CellsIn.left {w : World} {p : Option Addr} {A C : List Cell} (h : CellsIn w p (A ++ C)) : CellsIn w p A := by
  intro i hi
  obtain ⟨b, o, e, c⟩ := h i (by simp; omega)
  rw [List.getElem_append_left hi] at c
  exact ⟨b, o, e, c⟩
/-- rows, as they lie, with the room they have -/
def RowsC (w : World) (p : Option Addr) (rows : List (List Cell)) : Prop := ∀ i (h : i < rows.length), ∃ b o q d, p = some ⟨b, o, none⟩ ∧ w.cell? ⟨b, o + i, none⟩ = some (.slice q rows[i].length d) ∧ CellsIn w q rows[i] ∧ rows[i].length ≤ d ∧ d ≤ maxLen
theorem RowsC.below {w w' : World} {p : Option Addr} {rows : List (List Cell)} (h : RowsC w p rows) (hb : Below w.heap.size w w') : RowsC w' p rows := by
  intro i hi
  obtain ⟨b, o, q, d, e, c, hc, h1⟩ := h i hi
  exact ⟨b, o, q, d, e, (hb.cell (p := ⟨b, o + i, none⟩) (lt_of_cell c)).trans c, hc.below hb, h1⟩
theorem Rows.rowsC {w : World} {B : Nat} {p : Option Addr} {n c : Nat} {rs : List (List Cell × Value)} (h : Rows w B (.slice p n c) rs) : RowsC w p (rs.map (·.1)) := by
  intro i hi
  rw [List.length_map] at hi
  rcases h.own.2 with ⟨e, e0⟩ | ⟨g, cap, cur, e, _⟩
  · omega
  · simp only [Value.slice.injEq] at e
    obtain ⟨rfl, rfl, rfl⟩ := e
    have hc := World.ownsRow.cells (g := g) h.own rfl i rs[i].2 (by rw [List.getElem?_map, List.getElem?_eq_getElem hi]; rfl)
    have ho := h.each _ (List.getElem_mem hi)
    have hcap : ∀ q d, rs[i].2 = .slice q rs[i].1.length d → rs[i].1.length ≤ d ∧ d ≤ maxLen := by
      intro q d e
      rcases ho.2 with ⟨e1, e0⟩ | ⟨g2, cap2, cur2, e1, _, _, h2, h3, _⟩
      · rw [e] at e1
        simp only [Value.slice.injEq] at e1
        obtain ⟨_, e2, rfl⟩ := e1
        exact ⟨by omega, Nat.zero_le _⟩
      · rw [e] at e1
        simp only [Value.slice.injEq] at e1
        obtain ⟨_, _, rfl⟩ := e1
        exact ⟨h2, h3⟩
    obtain ⟨q, d, e⟩ := own_slice ho
    have hq := hcap q d e
    rw [Addr.add_lit, e] at hc
    rw [e] at ho
    simp only [List.getElem_map]
    exact ⟨g, 0, q, d, rfl, hc, ho.cellsIn.1, hq⟩
set_option maxRecDepth 100000 in
theorem roomy_any (rows : List (List Cell)) (p : Option Addr) (c : Nat) (w : World) (hr : RowsN w p rows) (hn : rows.length ≤ 1048576) (hsz : ∀ r ∈ rows, r.length ≤ 1048576) :
    Calls Tryz.prog 18 #[.slice p rows.length c] w fun e w' => ∃ ql qw dl dw, e = .returned (.tuple #[.slice ql (rows.length + 20) dl, .slice qw rows.length dw]) ∧ RowsIn w' ql (rows ++ wds.map fun x => [x]) ∧ RowsC w' qw (rows.map (· ++ wds)) ∧ rows.length + 20 ≤ dl ∧ dl ≤ maxLen ∧ Below w.heap.size w w' := by
  obtain ⟨i9, hi9, s0, s1, s2⟩ := info_parts infoStr
  obtain ⟨iR, hiR, r0, r1, r2⟩ := info_parts infoRow
  obtain ⟨n, hnn⟩ : ∃ n, n = rows.length := ⟨_, rfl⟩
  have HN := Lib.hid hnn
  rw [← hnn] at hn ⊢
  have HR := Lib.hid hr
  have HSZ := Lib.hid hsz
  obtain ⟨B, hB⟩ : ∃ B, B = w.heap.size := ⟨_, rfl⟩
  have HB0 := Lib.hid hB
  have HBB : Hid (B ≤ w.heap.size) := Nat.le_of_eq hB
  rw [← hB]
  clear hnn hr hsz hB
  go_enter Tryz.func18, Tryz.ntmps18
  go_wp2
  go_loopw [4, 5, 6] (fun lv vv iv wr => ∃ (k : Nat) (rs : List (List Cell × Value)), k ≤ n ∧ iv = .int .i64 k ∧ rs.length = k ∧ Rm w wr B (rows.take k) lv vv rs) (fun _ _ iv _ => n - (intOf iv).toNat)
  case atStart => exact ⟨0, [], Nat.zero_le _, rfl, rfl, by simp, ⟨World.ownsRow_nil _ _ _ _, by simp⟩, World.ownsRow_nil _ _ _ _, .inl rfl, Below.refl _ _⟩
  case round =>
    obtain ⟨k, rs, hk, rfl, hrk, hrm⟩ := hrel
    have HRM := Lib.hid hrm
    have HRK := Lib.hid hrk
    obtain ⟨lp, lc, rfl⟩ := own_slice hrm.lst
    obtain ⟨vp, vc, rfl⟩ := own_slice hrm.rows.own
    have HB : Hid (B ≤ wr.heap.size) := Nat.le_trans HBB.out hrm.blw.size
    have HBW := Lib.hid hrm.blw
    rw [hrk]
    rw [hrk] at HRM
    clear hrm hrk
    by_cases hlt : k < n
    · obtain ⟨r, b, o, q, d, hr, rfl, c0w, hcw, hq0⟩ := HR.out.nth (k := k) (by rw [← show n = _ from HN.out]; exact hlt)
      have HLT : Hid (b < B) := by have := lt_of_cell c0w; rw [← show B = _ from HB0.out] at this; exact this
      have c0 := (HBW.out.cell (p := ⟨b, o + k, none⟩) HLT.out).trans c0w
      have hc : CellsIn wr q r := hcw.below (by have := HBW.out; rw [show B = _ from HB0.out] at this; exact this)
      have hmm := HSZ.out r (List.mem_of_getElem? hr)
      have HKR := Lib.hid hr
      obtain ⟨m, hm⟩ : ∃ m, m = r.length := ⟨_, rfl⟩
      rw [← hm] at c0 hmm
      have HM := Lib.hid hm
      have HC := Lib.hid hc
      have HQ0 := Lib.hid hq0
      have hca : ([] : List Cell).length + r.length ≤ maxLen := by rw [← hm, List.length_nil]; unfold maxLen; omega
      have hcb : (([] : List Cell).length + r.length) * 16 ≤ 140737488355328 := by rw [← hm, List.length_nil]; omega
      have HCN : Hid (m = ([] : List Cell).length + r.length) := by show _ = _; rw [← hm, List.length_nil]; omega
      clear hr c0w hcw hm hc hq0
      go_wp2_with (at_builtin; refine wpList_catS rfl _ _ rfl wr.heap.size i9 hi9 s0 s1 s2 (.slice none 0 0) [] rfl (OutS.nil _ _) q d m r HM.out rfl HC.out HQ0.out hca hcb (Nat.le_refl _) m HCN.out ?_)
      intro p1 k1 w1 ho1 hg1 _
      have HB1 : Hid (Below wr.heap.size wr w1) := (Below.refl _ _).grown hg1 (Nat.le_refl _) (fun k hk => by cases hk)
      have HO1 : Hid (w1.ownsRow wr.heap.size 9 1 (.slice p1 m k1) m (strs r)) := by
        have h2 : w1.ownsRow wr.heap.size 9 1 (.slice p1 m k1) r.length (strs r) := ho1
        rw [← show m = _ from HM.out] at h2
        exact h2
      obtain ⟨B1, hB1⟩ : ∃ B1, B1 = wr.heap.size := ⟨_, rfl⟩
      rw [← hB1] at HB1 HO1
      have HBE := Lib.hid hB1
      clear ho1 hg1 hca hcb hB1
      obtain ⟨wo, rfl⟩ : ∃ x : World, x = wr := ⟨_, rfl⟩
      go_wp2
      go_loopw [7, 8] (fun lv kv wx => ∃ (j : Nat) (q : Option Addr) (d : Nat), j ≤ 20 ∧ kv = .int .i64 j ∧ lv = .slice q (m + j) d ∧ wx.ownsRow B1 9 1 (.slice q (m + j) d) (m + j) (strs (r ++ wds.take j)) ∧ Below B1 wo wx) (fun _ kv _ => 20 - (intOf kv).toNat)
      case atStart => exact ⟨0, p1, k1, Nat.zero_le _, rfl, rfl, by simpa using HO1.out, HB1.out⟩
      case round =>
        obtain ⟨j, q3, d3, hj, rfl, rfl, ho3, hb3⟩ := hrel
        have HO3 := Lib.hid ho3
        have HB3 := Lib.hid hb3
        have HS1 : Hid (B1 ≤ wr.heap.size) := by have := hb3.size; show _ ≤ _; rw [show B1 = _ from HBE.out]; exact this
        clear ho3 hb3
        by_cases hjt : j < 20
        · have HTK : Hid (strs (r ++ wds.take (j + 1)) = strs (r ++ wds.take j) ++ [.string ⟨(wd j).toArray⟩]) := by show _ = _; rw [wds_take hjt, ← List.append_assoc, strs_snoc]
          go_wp2_with fail
          refine (word_any j hjt wr).mono ?_
          rintro e w2 ⟨rfl, hb2⟩
          have HO2 : Hid (w2.ownsRow B1 9 1 (.slice q3 (m + j) d3) (m + j) (strs (r ++ wds.take j))) := own_kept_any HO3.out hb2
          have HB2 : Hid (Below B1 wo w2) := HB3.out.trans (hb2.mono HS1.out)
          have HS2 : Hid (B1 ≤ w2.heap.size) := Nat.le_trans HS1.out hb2.size
          have HSW : Hid (∀ o : Obj, B1 ≤ (w2.alloc o).heap.size) := fun o => (by have := HS2.out; simp; omega)
          have hm1 : m + j + 1 ≤ maxLen := by unfold maxLen; omega
          have hm2 : (m + j + 1) * 16 ≤ 140737488355328 := by omega
          clear hb2
          go_wp2_with (at_builtin; refine wpList_append_lies _ rfl _ _ 22 rfl B1 9 i9 (.string ⟨#[]⟩) 1 16 Tryz.underlying22 hi9 s0 s1 s2 rfl (by decide) _ _ _ rfl (World.ownsRow.alloc HO2.out _) ⟨w2.heap.size, 0, none⟩ 1 1 [.string ⟨(wd j).toArray⟩] rfl rfl (lit_cells w2 _ _) (by intro u hu; simp at hu; subst hu; rfl) (by decide) hm1 hm2 (HSW.out _) (w2.heap.size + 1) (by simp) ?_)
          intro g4 cap4 w4 hown4 hgr4 hwh4 hlt4
          have HO4 : Hid (w4.ownsRow B1 9 1 (.slice (some ⟨g4, 0, none⟩) (m + j + 1) cap4) (m + j + 1) (strs (r ++ wds.take (j + 1)))) := by show _; rw [HTK.out]; exact hown4
          have HB4 : Hid (Below B1 wo w4) := by
            have h1 : Below B1 w2 (w2.alloc (.cells #[.string ⟨(wd j).toArray⟩] 9)) := (Below.refl B1 w2).alloc HS2.out _
            exact HB2.out.trans (h1.grown hgr4 (HSW.out _) (fun k hk => (World.ownsRow.lt HO2.out k hk).1))
          clear hown4 hgr4 hwh4 hlt4 hm1 hm2
          go_wp2
          go_roundw
          case rel => exact ⟨j + 1, _, cap4, by omega, by go_num, rfl, HO4.out, HB4.out⟩
          case measure => simp [intOf]; omega
        · have hj20 : j = 20 := by omega
          subst hj20
          have hRM := HRM.out.kept HB.out (by have := HB3.out; rw [show B1 = _ from HBE.out] at this; exact this)
          have ho4 : wr.ownsRow B1 9 1 (.slice q3 (m + 20) d3) (m + 20) (strs (r ++ wds)) := HO3.out
          have hcap : m + 20 ≤ d3 ∧ d3 ≤ maxLen := by
            rcases ho4.2 with ⟨e, e0⟩ | ⟨g, cap, cur, e, _, _, h2, h3, _⟩
            · omega
            · simp only [Value.slice.injEq] at e
              obtain ⟨_, _, rfl⟩ := e
              exact ⟨h2, h3⟩
          have hcap1 := hcap.1
          have hcap2 : d3 ≤ 9223372036854775807 := hcap.2
          have HSB : Hid (B ≤ wr.heap.size) := by have := HB.out; have := HS1.out; have e : B1 = _ := HBE.out; show _ ≤ _; omega
          have HBB1 : Hid (B ≤ B1) := by have := HB.out; have e : B1 = _ := HBE.out; show _ ≤ _; omega
          have HOL : Hid (wr.ownsRow B 9 1 (.slice q3 (m + 20) d3) (m + 20) (strs (r ++ wds))) := own_base ho4 HBB1.out
          have HRM2 := Lib.hid hRM
          have HV : Hid (wr.ownsRow B 22 1 (.slice vp k vc) k (rs.map (·.2))) := by have := hRM.rows.own; rw [show rs.length = k from HRK.out] at this; exact this
          have HSW : Hid (∀ o : Obj, B ≤ (wr.alloc o).heap.size) := fun o => (by have := HSB.out; simp; omega)
          have hm1 : k + 1 ≤ maxLen := by unfold maxLen; omega
          have hm2 : (k + 1) * 24 ≤ 140737488355328 := by omega
          have d0 := (HB3.out.cell (p := ⟨b, o + k, none⟩) (by have := HLT.out; have := HBB1.out; exact Nat.lt_of_lt_of_le HLT.out HBB1.out)).trans c0
          clear hRM ho4 hcap c0
          go_wp2_with (at_builtin; refine wpList_append_lies _ rfl _ _ 26 rfl B 22 iR (.slice none 0 0) 1 24 Tryz.underlying26 hiR r0 r1 r2 rfl (by decide) _ _ _ rfl (World.ownsRow.alloc HV.out _) ⟨wr.heap.size, 0, none⟩ 1 1 [.slice q3 (m + 20) d3] rfl rfl (lit_cells wr _ _) (by intro u hu; simp at hu; subst hu; rfl) (by decide) hm1 hm2 (HSW.out _) (wr.heap.size + 1) (by simp) ?_)
          intro g5 cap5 w5 hown5 hgr5 hwh5 hlt5
          have HLs : Hid (wr.ownsRow B 22 1 (.slice lp k lc) k (rs.map fun x => cutv x.2)) := by have := HRM2.out.lst; rw [show rs.length = k from HRK.out] at this; exact this
          have HW5 : Hid (Below B wr w5) := by
            have h1 : Below B wr (wr.alloc (.cells #[.slice q3 (m + 20) d3] 22)) := (Below.refl B wr).alloc HSB.out _
            exact h1.grown hgr5 (HSW.out _) (fun k hk => (World.ownsRow.lt HV.out k hk).1)
          have k0 := (HW5.out.cell (p := ⟨b, o + k, none⟩) HLT.out).trans d0
          have HV5 : Hid (w5.ownsRow B 22 1 (.slice (some ⟨g5, 0, none⟩) (k + 1) cap5) (k + 1) (rs.map (·.2) ++ [.slice q3 (m + 20) d3])) := hown5
          have HL5 : Hid (w5.ownsRow B 22 1 (.slice lp k lc) k (rs.map fun x => cutv x.2)) := World.ownsRow.kept (World.ownsRow.alloc HLs.out _) hgr5 HRM2.out.apart
          have HE5 : Hid (∀ x ∈ rs, OutS w5 B x.2 x.1) := fun x hx => World.ownsRow.kept (World.ownsRow.alloc (HRM2.out.rows.each x hx) _) hgr5 (own_apart (HRM2.out.rows.each x hx) HV.out (by decide))
          have HOL5 : Hid (w5.ownsRow B 9 1 (.slice q3 (m + 20) d3) (m + 20) (strs (r ++ wds))) := World.ownsRow.kept (World.ownsRow.alloc HOL.out _) hgr5 (own_apart HOL.out HV.out (by decide))
          have HAP5 := Lib.hid (lst_apart (c := cap5) (n' := k + 1) HLs.out HRM2.out.apart (Nat.lt_succ_self _) hwh5)
          have HS5 : Hid (B ≤ w5.heap.size) := Nat.le_trans HSB.out HW5.out.size
          have HSW5 : Hid (∀ o : Obj, B ≤ (w5.alloc o).heap.size) := fun o => (by have := HS5.out; simp; omega)
          clear hown5 hgr5 hwh5 hlt5 d0
          go_wp2_with (at_builtin; refine wpList_append_lies _ rfl _ _ 26 rfl B 22 iR (.slice none 0 0) 1 24 Tryz.underlying26 hiR r0 r1 r2 rfl (by decide) _ _ _ rfl (World.ownsRow.alloc HL5.out _) ⟨w5.heap.size, 0, none⟩ 1 1 [.slice q3 m (m + 20)] rfl rfl (lit_cells w5 _ _) (by intro u hu; simp at hu; subst hu; rfl) (by decide) hm1 hm2 (HSW5.out _) (w5.heap.size + 1) (by simp) ?_)
          intro g6 cap6 w6 hown6 hgr6 hwh6 hlt6
          have HW6 : Hid (Below B w5 w6) := by
            have h1 : Below B w5 (w5.alloc (.cells #[.slice q3 m (m + 20)] 22)) := (Below.refl B w5).alloc HS5.out _
            exact h1.grown hgr6 (HSW5.out _) (fun k hk => (World.ownsRow.lt HL5.out k hk).1)
          have HRM6 : Hid (Rm w w6 B (rows.take (k + 1)) (.slice (some ⟨g6, 0, none⟩) (k + 1) cap6) (.slice (some ⟨g5, 0, none⟩) (k + 1) cap5) (rs ++ [(r ++ wds, .slice q3 (m + 20) d3)])) := by
            have hap : (Value.slice (some ⟨g5, 0, none⟩) (k + 1) cap5).ownBlock = none ∨ (Value.slice (some ⟨g5, 0, none⟩) (k + 1) cap5).ownBlock ≠ (Value.slice lp k lc).ownBlock := by
              rcases HAP5.out with h | h
              · right; rw [h]; simp [Value.ownBlock]
              · exact .inr fun e => h e.symm
            have e1 : (rs ++ [(r ++ wds, Value.slice q3 (m + 20) d3)]).length = k + 1 := by simp [show rs.length = k from HRK.out]
            refine ⟨?_, ⟨?_, ?_⟩, ?_, ?_, ?_⟩
            · rw [take_snoc' (by obtain ⟨h, _⟩ := List.getElem?_eq_some_iff.1 HKR.out; exact h), List.map_append, List.map_append, HRM2.out.eq, (List.getElem?_eq_some_iff.1 HKR.out).2]
              rfl
            · rw [e1, List.map_append]
              exact World.ownsRow.kept (World.ownsRow.alloc HV5.out _) hgr6 hap
            · intro x hx
              rcases List.mem_append.1 hx with hx | hx
              · exact World.ownsRow.kept (World.ownsRow.alloc (HE5.out x hx) _) hgr6 (own_apart (HE5.out x hx) HL5.out (by decide))
              · simp only [List.mem_singleton] at hx
                subst hx
                have hlen : (r ++ wds).length = m + 20 := by rw [List.length_append, wds_len, show m = _ from HM.out]
                show w6.ownsRow B 9 1 _ (r ++ wds).length _
                rw [hlen]
                exact World.ownsRow.kept (World.ownsRow.alloc HOL5.out _) hgr6 (own_apart HOL5.out HL5.out (by decide))
            · rw [e1, List.map_append]
              have : cutv (.slice q3 (m + 20) d3) = .slice q3 m (m + 20) := by simp [cutv]
              simp only [List.map_cons, List.map_nil, this]
              exact hown6
            · have := lst_apart (c := cap6) (n' := k + 1) HV5.out hap (Nat.lt_succ_self _) hwh6
              rcases this with h | h
              · simp [Value.ownBlock] at h
              · exact .inr fun e => h e.symm
            · exact HRM2.out.blw.trans (HW5.out.trans HW6.out)
          have HRK6 : Hid ((rs ++ [(r ++ wds, Value.slice q3 (m + 20) d3)]).length = k + 1) := by show _ = _; simp [show rs.length = k from HRK.out]
          clear hown6 hgr6 hwh6 hlt6 k0 hm1 hm2
          go_wp2
          go_roundw
          case rel => exact ⟨k + 1, _, by omega, by go_num, HRK6.out, HRM6.out⟩
          case measure => simp [intOf]; omega
    · have htk : rows.take k = rows := List.take_of_length_le (by have := HN.out; omega)
      rw [htk] at HRM
      have HKN : Hid (k = n) := by show _ = _; omega
      have HLs : Hid (wr.ownsRow B 22 1 (.slice lp k lc) k (rs.map fun x => cutv x.2)) := by have := HRM.out.lst; rw [show rs.length = k from HRK.out] at this; exact this
      obtain ⟨wo, rfl⟩ : ∃ x : World, x = wr := ⟨_, rfl⟩
      clear htk
      go_wp2
      go_loopw [4, 9] (fun lv kv wx => ∃ (j : Nat) (ss : List (List Cell × Value)) (q : Option Addr) (d : Nat), j ≤ 20 ∧ kv = .int .i64 j ∧ lv = .slice q (k + j) d ∧ wx.ownsRow B 22 1 (.slice q (k + j) d) (k + j) ((rs.map fun x => cutv x.2) ++ ss.map (·.2)) ∧ ss.map (·.1) = (wds.take j).map (fun x => [x]) ∧ (∀ x ∈ ss, OutS wx B x.2 x.1) ∧ Rows wx B (.slice vp k vc) rs ∧ ((Value.slice q (k + j) d).ownBlock = none ∨ (Value.slice q (k + j) d).ownBlock ≠ (Value.slice vp k vc).ownBlock) ∧ Below B w wx) (fun _ kv _ => 20 - (intOf kv).toNat)
      case atStart => exact ⟨0, [], lp, lc, Nat.zero_le _, rfl, rfl, by simpa using HLs.out, by simp, by simp, HRM.out.rows, HRM.out.apart, HRM.out.blw⟩
      case round =>
        obtain ⟨j, ss, q3, d3, hj, rfl, rfl, ho3, hss, hse, hrw, hap, hb3⟩ := hrel
        have HO3 := Lib.hid ho3
        have HSS := Lib.hid hss
        have HSE := Lib.hid hse
        have HRW := Lib.hid hrw
        have HAP := Lib.hid hap
        have HB3 := Lib.hid hb3
        have HSB : Hid (B ≤ wr.heap.size) := Nat.le_trans HBB.out hb3.size
        clear ho3 hss hse hrw hap hb3
        by_cases hjt : j < 20
        · go_wp2_with fail
          refine (word_any j hjt wr).mono ?_
          rintro e w2 ⟨rfl, hb2⟩
          have HO2 : Hid (w2.ownsRow B 22 1 (.slice q3 (k + j) d3) (k + j) ((rs.map fun x => cutv x.2) ++ ss.map (·.2))) := own_kept_any HO3.out hb2
          have HE2 : Hid (∀ x ∈ ss, OutS w2 B x.2 x.1) := fun x hx => own_kept_any (HSE.out x hx) hb2
          have HR2 : Hid (Rows w2 B (.slice vp k vc) rs) := ⟨own_kept_any HRW.out.own hb2, fun x hx => own_kept_any (HRW.out.each x hx) hb2⟩
          have HB2 : Hid (Below B w w2) := HB3.out.trans (hb2.mono HSB.out)
          have HS2 : Hid (B ≤ w2.heap.size) := Nat.le_trans HSB.out hb2.size
          have hm1 : k + j + 1 ≤ maxLen := by unfold maxLen; omega
          have hm2 : (k + j + 1) * 24 ≤ 140737488355328 := by omega
          have HSW : Hid (∀ o o2 : Obj, B ≤ ((w2.alloc o).alloc o2).heap.size) := fun o o2 => (by have := HS2.out; simp; omega)
          clear hb2
          go_wp2_with (at_builtin; refine wpList_append_lies _ rfl _ _ 26 rfl B 22 iR (.slice none 0 0) 1 24 Tryz.underlying26 hiR r0 r1 r2 rfl (by decide) _ _ _ rfl (World.ownsRow.alloc (World.ownsRow.alloc HO2.out _) _) ⟨w2.heap.size + 1, 0, none⟩ 1 1 [.slice (some ⟨w2.heap.size, 0, none⟩) 1 1] rfl rfl (lit_at (by simp)) (by intro u hu; simp at hu; subst hu; rfl) (by decide) hm1 hm2 (HSW.out _ _) (w2.heap.size + 1 + 1) (by simp) ?_)
          intro g4 cap4 w4 hown4 hgr4 hwh4 hlt4
          have HB4 : Hid (Below B w w4) := by
            have h1 : Below B w2 (w2.alloc (.cells #[.string ⟨(wd j).toArray⟩] 9)) := (Below.refl B w2).alloc HS2.out _
            have h2 := h1.alloc (o := .cells #[.slice (some ⟨w2.heap.size, 0, none⟩) 1 1] 22) (by have := HS2.out; simp; omega)
            exact HB2.out.trans (h2.grown hgr4 (HSW.out _ _) (fun k hk => (World.ownsRow.lt HO2.out k hk).1))
          have HE4 : Hid (∀ x ∈ ss ++ [([wd j], Value.slice (some ⟨w2.heap.size, 0, none⟩) 1 1)], OutS w4 B x.2 x.1) := by
            intro x hx
            rcases List.mem_append.1 hx with hx | hx
            · exact World.ownsRow.kept (World.ownsRow.alloc (World.ownsRow.alloc (HE2.out x hx) _) _) hgr4 (own_apart (HE2.out x hx) HO2.out (by decide))
            · simp only [List.mem_singleton] at hx
              subst hx
              have h1 := single_any w2 B HS2.out (wd j)
              exact World.ownsRow.kept (World.ownsRow.alloc h1 _) hgr4 (own_apart h1 (World.ownsRow.alloc HO2.out _) (by decide))
          have HAPV : Hid ((Value.slice vp k vc).ownBlock = none ∨ (Value.slice vp k vc).ownBlock ≠ (Value.slice q3 (k + j) d3).ownBlock) := by
            rcases HAP.out with h | h
            · cases hv : (Value.slice vp k vc).ownBlock with
              | none => exact .inl rfl
              | some x => right; rw [h]; simp
            · exact .inr fun e => h e.symm
          have HR4 : Hid (Rows w4 B (.slice vp k vc) rs) := ⟨World.ownsRow.kept (World.ownsRow.alloc (World.ownsRow.alloc HR2.out.own _) _) hgr4 HAPV.out, fun x hx => World.ownsRow.kept (World.ownsRow.alloc (World.ownsRow.alloc (HR2.out.each x hx) _) _) hgr4 (own_apart (HR2.out.each x hx) HO2.out (by decide))⟩
          have HV2 : Hid (w2.ownsRow B 22 1 (.slice vp k vc) k (rs.map (·.2))) := by have := HR2.out.own; rw [show rs.length = k from HRK.out] at this; exact this
          have HAP4 : Hid ((Value.slice (some ⟨g4, 0, none⟩) (k + j + 1) cap4).ownBlock = none ∨ (Value.slice (some ⟨g4, 0, none⟩) (k + j + 1) cap4).ownBlock ≠ (Value.slice vp k vc).ownBlock) := by
            have := lst_apart (c := cap4) (n' := k + j + 1) HV2.out HAPV.out (H := w2.heap.size + 1 + 1) (by omega) hwh4
            rcases this with h | h
            · right; rw [h]; simp [Value.ownBlock]
            · exact .inr fun e => h e.symm
          have HO4 : Hid (w4.ownsRow B 22 1 (.slice (some ⟨g4, 0, none⟩) (k + j + 1) cap4) (k + j + 1) ((rs.map fun x => cutv x.2) ++ (ss ++ [([wd j], Value.slice (some ⟨w2.heap.size, 0, none⟩) 1 1)]).map (·.2))) := by
            have h9 : w4.ownsRow B 22 1 (.slice (some ⟨g4, 0, none⟩) (k + j + 1) cap4) (k + j + 1) ((rs.map fun x => cutv x.2) ++ (ss ++ [([wd j], Value.slice (some ⟨w2.heap.size, 0, none⟩) 1 1)]).map (·.2)) := by
              rw [List.map_append]
              simpa using hown4
            exact h9
          have HSS4 : Hid ((ss ++ [([wd j], Value.slice (some ⟨w2.heap.size, 0, none⟩) 1 1)]).map (·.1) = (wds.take (j + 1)).map (fun x => [x])) := by
            show _ = _
            rw [List.map_append, HSS.out, wds_take hjt, List.map_append]
            rfl
          clear hown4 hgr4 hwh4 hlt4 hm1 hm2
          go_wp2
          go_roundw
          case rel => exact ⟨j + 1, _, _, cap4, by omega, by go_num, rfl, HO4.out, HSS4.out, HE4.out, HR4.out, HAP4.out, HB4.out⟩
          case measure => simp [intOf]; omega
        · have hj20 : j = 20 := by omega
          subst hj20
          have hkr : k = rows.length := (show k = n from HKN.out).trans HN.out
          have hrl : rs.length = rows.length := (show rs.length = k from HRK.out).trans hkr
          have heq := HRM.out.eq
          have hrx : ∀ i (hi : i < rows.length), ∃ v, (rs[i]? = some (rows[i] ++ wds, v)) := fun i hi => by
            have h1 : (rs.map (·.1))[i]? = some (rows[i] ++ wds) := by rw [heq, List.getElem?_map, List.getElem?_eq_getElem hi]; rfl
            rw [List.getElem?_map] at h1
            obtain ⟨x, hx, hx2⟩ := Option.map_eq_some_iff.1 h1
            exact ⟨x.2, by rw [hx, ← hx2]⟩
          have hrow : ∀ i (hi : i < rows.length), ∃ q d, rs[i]? = some (rows[i] ++ wds, .slice q (rows[i].length + 20) d) ∧ CellsIn wr q (rows[i] ++ wds) := fun i hi => by
            obtain ⟨v, hv⟩ := hrx i hi
            have ho := HRW.out.each _ (List.mem_of_getElem? hv)
            obtain ⟨q, d, e⟩ := own_slice ho
            simp only at e
            have hl : (rows[i] ++ wds).length = rows[i].length + 20 := by rw [List.length_append, wds_len]
            rw [hl] at e
            subst e
            exact ⟨q, d, hv, (OutS.cellsIn (n := rows[i].length + 20) ho).1⟩
          have hssl : ss.length = 20 := by have := congrArg List.length HSS.out; simpa [wds_len] using this
          have hL : RowsIn wr q3 (rows ++ wds.map fun x => [x]) := by
            refine rows_lie HO3.out (by rw [List.length_append, List.length_map, wds_len, hkr]) (fun i hi => ?_)
            by_cases hir : i < rows.length
            · obtain ⟨q, d, h1, h2⟩ := hrow i hir
              refine ⟨q, rows[i].length + 20, ?_, ?_⟩
              · rw [List.getElem?_append_left (by rw [List.length_map, hrl]; exact hir), List.getElem?_map, h1, List.getElem_append_left hir]
                simp [cutv]
              · rw [List.getElem_append_left hir]
                exact h2.left
            · have hi2 : i - rows.length < 20 := by rw [List.length_append, List.length_map, wds_len] at hi; omega
              have hx1 : (ss.map (·.1))[i - rows.length]? = some [wd (i - rows.length)] := by
                rw [HSS.out, List.getElem?_map, List.take_of_length_le (by rw [wds_len]; omega), wds_get hi2]
                rfl
              rw [List.getElem?_map] at hx1
              obtain ⟨x, hx, hx2⟩ := Option.map_eq_some_iff.1 hx1
              have ho := HSE.out x (List.mem_of_getElem? hx)
              obtain ⟨q, d, e⟩ := own_slice ho
              rw [e, hx2] at ho
              have he : (rows ++ wds.map fun x => [x])[i] = [wd (i - rows.length)] := by
                have : (rows ++ wds.map fun x => [x])[i]? = some [wd (i - rows.length)] := by
                  rw [List.getElem?_append_right (by omega), List.getElem?_map, wds_get hi2]
                  rfl
                rw [List.getElem?_eq_getElem hi] at this
                exact Option.some.inj this
              rw [he]
              refine ⟨q, d, ?_, (OutS.cellsIn ho).1⟩
              rw [List.getElem?_append_right (by rw [List.length_map, hrl]; omega), List.length_map, hrl, List.getElem?_map, hx]
              simp only [Option.map_some]
              rw [e, hx2]
          have hV : RowsC wr vp (rows.map (· ++ wds)) := by
            have := HRW.out.rowsC
            rw [heq] at this
            exact this
          have hcap : k + 20 ≤ d3 ∧ d3 ≤ maxLen := by
            rcases HO3.out.2 with ⟨e, e0⟩ | ⟨g, cap, cur, e, _, _, h2, h3, _⟩
            · omega
            · simp only [Value.slice.injEq] at e
              obtain ⟨_, _, rfl⟩ := e
              exact ⟨h2, h3⟩
          have HL := Lib.hid hL
          have HV := Lib.hid hV
          have HCAP := Lib.hid hcap
          clear hL hV hcap hkr hrl heq hrx hrow hssl
          go_wp2
          first | go_ret2 | skip
          exact ⟨q3, vp, d3, vc, by rw [← show k = n from HKN.out]; rfl, HL.out, HV.out, by rw [← show k = n from HKN.out]; exact HCAP.out.1, HCAP.out.2, HB3.out⟩
end Go.Proofs.YtkficmbkoinjjaaGreatDoor
/- The law's own untouched. -/
namespace Go.Proofs.YtkficmbkoinjjaaGreatDoor
open Go Go.RowKit
set_option maxHeartbeats 8000000
set_option linter.unusedVariables false
set_option linter.unusedSimpArgs false
theorem mark_same (k : Nat) : ((⟨(wd k).toArray⟩ : ByteArray).toList == (⟨(wd k).toArray⟩ : ByteArray).toList) = true := by simp
set_option maxRecDepth 100000 in
theorem untouched_any (rows : List (List Cell)) (ql qw p : Option Addr) (cl cw c : Nat) (w : World) (hL : RowsIn w ql (rows ++ wds.map fun x => [x])) (hV : RowsC w qw (rows.map (· ++ wds))) (hR : RowsIn w p rows) (hn : rows.length ≤ 1048576) (hsz : ∀ r ∈ rows, r.length ≤ 1048576) :
    Calls Tryz.prog 20 #[.slice ql (rows.length + 20) cl, .slice qw rows.length cw, .slice p rows.length c] w fun e w' => e = .returned (.bool true) ∧ Below w.heap.size w w' := by
  obtain ⟨n, hnn⟩ : ∃ n, n = rows.length := ⟨_, rfl⟩
  have HN := Lib.hid hnn
  rw [← hnn] at hn ⊢
  have HL := Lib.hid hL
  have HV := Lib.hid hV
  have HR := Lib.hid hR
  have HSZ := Lib.hid hsz
  clear hnn hL hV hR hsz
  go_enter Tryz.func20, Tryz.ntmps20
  go_wp2
  go_loopw [8] (fun kv wx => ∃ k : Nat, k ≤ 20 ∧ kv = .int .i64 k ∧ Below w.heap.size w wx) (fun kv _ => 20 - (intOf kv).toNat)
  case atStart => exact ⟨0, Nat.zero_le _, rfl, Below.refl _ _⟩
  case round =>
    obtain ⟨k, hk, rfl, hb⟩ := hrel
    have HB := Lib.hid hb
    clear hb
    by_cases hlt : k < 20
    · have hkl : n + k < (rows ++ wds.map fun x => [x]).length := by rw [List.length_append, List.length_map, wds_len, ← show n = _ from HN.out]; omega
      obtain ⟨r, b, o, q, d, hr, rfl, c0w, hcw⟩ := HL.out.nth hkl
      have hre : r = [wd k] := by
        rw [show n = _ from HN.out, List.getElem?_append_right (by omega), Nat.add_sub_cancel_left, List.getElem?_map, wds_get hlt] at hr
        exact (Option.some.inj hr).symm
      subst hre
      obtain ⟨cc, b2, o2, hcc, rfl, d0w⟩ := hcw.nth (k := 0) (by simp)
      have hce : cc = wd k := by simpa using hcc.symm
      subst hce
      have c0 := (HB.out.cell (p := ⟨b, o + (n + k), none⟩) (lt_of_cell c0w)).trans c0w
      have d0 := (HB.out.cell (p := ⟨b2, o2 + 0, none⟩) (lt_of_cell d0w)).trans d0w
      obtain ⟨e, he⟩ : ∃ e, e = n + k := ⟨_, rfl⟩
      have hwr : IntKind.i64.wrap ((n : Int) + (k : Int)) = (e : Int) := by rw [IntWalk.i64_in _ (by omega)]; omega
      have hbd0 : (0 : Int) ≤ (e : Int) := by omega
      have hbd : (e : Int) < (n : Int) + 20 := by omega
      rw [← he] at c0
      have hl1 := lt_of_cell c0
      have hl2 := lt_of_cell d0
      obtain ⟨M, hM⟩ : ∃ M : ByteArray, M = ⟨(wd k).toArray⟩ := ⟨_, rfl⟩
      have HW : Hid (∀ wx, Calls Tryz.prog 17 #[.int .i64 k] wx fun e w' => e = .returned (.string M) ∧ Below wx.heap.size wx w') := fun wx => by rw [hM]; exact word_any k hlt wx
      rw [← hM] at d0
      simp only [List.length_cons, List.length_nil, Nat.add_zero, Nat.zero_add] at c0 d0
      have HS : Hid (∀ wx, Below wr.heap.size wr wx → Below wr.heap.size wr wx ∧ wx.cell? ⟨b, o + e, none⟩ = some (.slice (some ⟨b2, o2, none⟩) 1 d) ∧ wx.cell? ⟨b2, o2, none⟩ = some (.string M)) := fun wx hx => ⟨hx, (hx.cell (p := ⟨b, o + e, none⟩) hl1).trans c0, (hx.cell (p := ⟨b2, o2, none⟩) hl2).trans d0⟩
      clear hkl hr hcw c0w d0w hcc hM he
      go_wp2
      go_region_held3 (fun wx => Below wr.heap.size wr wx ∧ wx.cell? ⟨b, o + e, none⟩ = some (.slice (some ⟨b2, o2, none⟩) 1 d) ∧ wx.cell? ⟨b2, o2, none⟩ = some (.string M))
        ((refine HS.out _ ?_; first | assumption | exact Below.refl _ _ | exact (Below.refl _ _).drew | exact held_below (by assumption)))
        (first | (go_at_call 17; refine (HW.out _).mono ?_; rintro e w2 ⟨rfl, hb2⟩; have hB2 : Below wr.heap.size wr w2 := held_on (by assumption) hb2))
      all_goals
        have HB2 : Hid (Below w.heap.size w w2) := HB.out.trans (hB2.mono HB.out.size)
        clear c0 d0
        go_wp2
        go_roundw
        case rel => exact ⟨k + 1, by omega, by go_num, HB2.out⟩
        case measure => simp [intOf]; omega
    · obtain ⟨wo, rfl⟩ : ∃ x : World, x = wr := ⟨_, rfl⟩
      go_wp2
      go_loopw [9] (fun iv wx => ∃ i : Nat, i ≤ n ∧ iv = .int .i64 i ∧ Below w.heap.size w wx) (fun iv _ => n - (intOf iv).toNat)
      case atStart => exact ⟨0, Nat.zero_le _, rfl, HB.out⟩
      case round =>
        obtain ⟨i, hi, rfl, hb⟩ := hrel
        have HBI := Lib.hid hb
        clear hb
        by_cases hit : i < n
        · have hil : i < rows.length := by rw [← show n = _ from HN.out]; exact hit
          obtain ⟨r, b3, o3, q3, d3, hr, rfl, c3w, hc3⟩ := HR.out.nth hil
          obtain ⟨r1, b1, o1, q1, d1, hr1, rfl, c1w, hc1⟩ := HL.out.nth (k := i) (by rw [List.length_append]; omega)
          have hr1e : r1 = r := by
            rw [List.getElem?_append_left hil, hr] at hr1
            exact (Option.some.inj hr1).symm
          subst hr1e
          obtain ⟨b2, o2, q2, d2, rfl, c2w, hc2, hcap1, hcap2⟩ := HV.out i (by rw [List.length_map]; exact hil)
          have hr2 : (rows.map (· ++ wds))[i]'(by rw [List.length_map]; exact hil) = r1 ++ wds := by
            rw [List.getElem_map, (List.getElem?_eq_some_iff.1 hr).2]
          rw [hr2] at c2w hc2 hcap1
          have hl2 : (r1 ++ wds).length = r1.length + 20 := by rw [List.length_append, wds_len]
          rw [hl2] at c2w hcap1
          have hm6 := HSZ.out r1 (List.mem_of_getElem? hr)
          have HC1 : Hid (∀ wx, Below w.heap.size w wx → CellsIn wx q1 r1 ∧ CellsIn wx q3 r1 ∧ CellsIn wx q2 (r1 ++ wds)) := fun wx hx => ⟨hc1.below hx, hc3.below hx, hc2.below hx⟩
          have HSR1 : Hid (∀ wx q d, Below wr.heap.size wr wx → (q = q1 ∧ d = d1) ∨ (q = q2 ∧ d = d2) → Calls Tryz.prog 15 #[.slice q r1.length d, .slice q3 r1.length d3] wx fun e w' => e = .returned (.bool true) ∧ Below wx.heap.size wx w') := fun wx q d hx hq => by
            have := HC1.out wx (HBI.out.trans (hx.mono HBI.out.size))
            rcases hq with ⟨rfl, rfl⟩ | ⟨rfl, rfl⟩
            · exact sameRow_any r1 _ q3 _ d3 wx this.1 this.2.1 (by unfold maxLen; omega)
            · exact sameRow_any r1 _ q3 _ d3 wx this.2.2.left this.2.1 (by unfold maxLen; omega)
          have c1 := (HBI.out.cell (p := ⟨b1, o1 + i, none⟩) (lt_of_cell c1w)).trans c1w
          have c2 := (HBI.out.cell (p := ⟨b2, o2 + i, none⟩) (lt_of_cell c2w)).trans c2w
          have c3 := (HBI.out.cell (p := ⟨b3, o3 + i, none⟩) (lt_of_cell c3w)).trans c3w
          have hl1 := lt_of_cell c1
          have hl2 := lt_of_cell c2
          have hl3 := lt_of_cell c3
          obtain ⟨m, hm⟩ : ∃ m, m = r1.length := ⟨_, rfl⟩
          have HM := Lib.hid hm
          rw [← hm] at c1 c2 c3 HSR1 hcap1 hm6
          have hd2 : d2 ≤ 9223372036854775807 := hcap2
          have hmd0 : (0 : Int) ≤ (m : Int) := by omega
          have hmd : (m : Int) ≤ (d2 : Int) := by omega
          have hil2 : (i : Int) < (n : Int) + 20 := by omega
          have HS : Hid (∀ wx, Below wr.heap.size wr wx → Below wr.heap.size wr wx ∧ wx.cell? ⟨b1, o1 + i, none⟩ = some (.slice q1 m d1) ∧ wx.cell? ⟨b2, o2 + i, none⟩ = some (.slice q2 (m + 20) d2) ∧ wx.cell? ⟨b3, o3 + i, none⟩ = some (.slice q3 m d3)) := fun wx hx => ⟨hx, (hx.cell (p := ⟨b1, o1 + i, none⟩) hl1).trans c1, (hx.cell (p := ⟨b2, o2 + i, none⟩) hl2).trans c2, (hx.cell (p := ⟨b3, o3 + i, none⟩) hl3).trans c3⟩
          clear hil hr hr1 hr2 c1w c2w c3w hc1 hc2 hc3 hcap2 hm
          go_wp2
          go_region_held3 (fun wx => Below wr.heap.size wr wx ∧ wx.cell? ⟨b1, o1 + i, none⟩ = some (.slice q1 m d1) ∧ wx.cell? ⟨b2, o2 + i, none⟩ = some (.slice q2 (m + 20) d2) ∧ wx.cell? ⟨b3, o3 + i, none⟩ = some (.slice q3 m d3))
            ((refine HS.out _ ?_; first | assumption | exact Below.refl _ _ | exact (Below.refl _ _).drew | exact held_below (by assumption)))
            (first | (go_at_call 15; refine (HSR1.out _ _ _ (held_below (by assumption)) (by first | exact .inl ⟨rfl, rfl⟩ | exact .inr ⟨rfl, rfl⟩)).mono ?_; rintro e w2 ⟨rfl, hb2⟩; have hB2 : Below wr.heap.size wr w2 := held_on (by assumption) hb2))
          all_goals
            have HB2 : Hid (Below w.heap.size w w2) := HBI.out.trans (hB2.mono HBI.out.size)
            have x2 := (hB2.cell (p := ⟨b2, o2 + i, none⟩) hl2).trans c2
            clear c1 c2 c3 hl1 hl2 hl3
            obtain ⟨wq, rfl⟩ : ∃ x : World, x = wr := ⟨_, rfl⟩
            go_wp2
            go_loopw [11] (fun jv wx => ∃ j : Nat, j ≤ 20 ∧ jv = .int .i64 j ∧ Below w2.heap.size w2 wx) (fun jv _ => 20 - (intOf jv).toNat)
            case atStart => exact ⟨0, Nat.zero_le _, rfl, Below.refl _ _⟩
            case round =>
              obtain ⟨j, hj, rfl, hb⟩ := hrel
              have HBJ := Lib.hid hb
              clear hb
              by_cases hjt : j < 20
              · have hcx := (HC1.out wr (HB2.out.trans (HBJ.out.mono HB2.out.size))).2.2
                obtain ⟨cc, b4, o4, hcc, rfl, d0⟩ := hcx.nth (k := m + j) (by rw [List.length_append, wds_len, ← show m = _ from HM.out]; omega)
                have hce : cc = wd j := by
                  rw [show m = _ from HM.out, List.getElem?_append_right (by omega), Nat.add_sub_cancel_left, wds_get hjt] at hcc
                  exact (Option.some.inj hcc).symm
                subst hce
                have y2 := (HBJ.out.cell (p := ⟨b2, o2 + i, none⟩) (lt_of_cell x2)).trans x2
                obtain ⟨e, he⟩ : ∃ e, e = m + j := ⟨_, rfl⟩
                have hwr : IntKind.i64.wrap ((m : Int) + (j : Int)) = (e : Int) := by rw [IntWalk.i64_in _ (by omega)]; omega
                have hbd0 : (0 : Int) ≤ (e : Int) := by omega
                have hbd : (e : Int) < (m : Int) + 20 := by omega
                rw [← he] at d0
                have hl5 := lt_of_cell y2
                have hl6 := lt_of_cell d0
                obtain ⟨M, hM⟩ : ∃ M : ByteArray, M = ⟨(wd j).toArray⟩ := ⟨_, rfl⟩
                have HW : Hid (∀ wx, Calls Tryz.prog 17 #[.int .i64 j] wx fun e w' => e = .returned (.string M) ∧ Below wx.heap.size wx w') := fun wx => by rw [hM]; exact word_any j hjt wx
                rw [← hM] at d0
                have HS6 : Hid (∀ wx, Below wr.heap.size wr wx → Below wr.heap.size wr wx ∧ wx.cell? ⟨b2, o2 + i, none⟩ = some (.slice (some ⟨b4, o4, none⟩) (m + 20) d2) ∧ wx.cell? ⟨b4, o4 + e, none⟩ = some (.string M)) := fun wx hx => ⟨hx, (hx.cell (p := ⟨b2, o2 + i, none⟩) hl5).trans y2, (hx.cell (p := ⟨b4, o4 + e, none⟩) hl6).trans d0⟩
                clear hcx hcc hM he x2
                go_wp2
                go_region_held3 (fun wx => Below wr.heap.size wr wx ∧ wx.cell? ⟨b2, o2 + i, none⟩ = some (.slice (some ⟨b4, o4, none⟩) (m + 20) d2) ∧ wx.cell? ⟨b4, o4 + e, none⟩ = some (.string M))
                  ((refine HS6.out _ ?_; first | assumption | exact Below.refl _ _ | exact (Below.refl _ _).drew | exact held_below (by assumption)))
                  (first | (go_at_call 17; refine (HW.out _).mono ?_; rintro e w2 ⟨rfl, hb2⟩; have hB6 : Below wr.heap.size wr w2 := held_on (by assumption) hb2))
                all_goals
                  have HB6 := Lib.hid (HBJ.out.trans (hB6.mono HBJ.out.size))
                  clear d0 y2
                  go_wp2
                  go_roundw
                  case rel => exact ⟨j + 1, by omega, by go_num, HB6.out⟩
                  case measure => simp [intOf]; omega
              · have HB7 : Hid (Below w.heap.size w wr) := HB2.out.trans (HBJ.out.mono HB2.out.size)
                clear x2
                go_wp2
                go_roundw
                case rel => exact ⟨i + 1, by omega, by go_num, HB7.out⟩
                case measure => simp [intOf]; omega
        · go_wp2
          go_ret
          exact ⟨rfl, HBI.out⟩
end Go.Proofs.YtkficmbkoinjjaaGreatDoor
