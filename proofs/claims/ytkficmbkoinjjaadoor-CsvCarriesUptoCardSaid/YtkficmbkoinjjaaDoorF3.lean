/- The document's own answer's Split. -/
import Derived.Test.YtkficmbkoinjjaaDoorF2
namespace Go.Proofs.YtkficmbkoinjjaaDoor
open Go Go.RowKit
set_option maxHeartbeats 8000000
set_option linter.unusedVariables false
set_option linter.unusedSimpArgs false
theorem ShO.byte {w0 w u w4 : World} {S g cap n : Nat} {rs : List (List Cell × Value)} {C : List Cell} {cell : Cell} {b : UInt8} {vr vc vb : Value} (h : ShO w0 w S rs C cell vr vc vb) (hg0 : w.grownBy u none) (hn : n = cell.length + 1)
    (hown : w4.ownsRow (S + 1) 5 1 (.slice (some ⟨g, 0, none⟩) n cap) n (Lib.byteCells cell ++ [.int .u8 (b.toNat : Int)])) (hgr : u.grownBy w4 vb.ownBlock) : ShO w0 w4 S rs C (cell ++ [b]) vr vc (.slice (some ⟨g, 0, none⟩) n cap) := by
  have h0 : ∀ {t sz n : Nat} {v : Value} {xs : List Value}, w.ownsRow (S + 1) t sz v n xs → u.ownsRow (S + 1) t sz v n xs := fun {t sz n v xs} hx => World.ownsRow.kept hx hg0 (by cases hv : v.ownBlock <;> simp)
  refine ⟨⟨World.ownsRow.kept (h0 h.rows.own) hgr (own_apart h.rows.own h.cel (by decide)), fun x hx => World.ownsRow.kept (h0 (h.rows.each x hx)) hgr (own_apart (h.rows.each x hx) h.cel (by decide))⟩, World.ownsRow.kept (h0 h.row) hgr (own_apart h.row h.cel (by decide)), ?_, h.apart, h.hS, ?_⟩
  · rw [bytes_snoc] at hown
    subst hn
    exact Out.of hown (by simp) rfl
  · have h1 : Below w0.heap.size w0 u := h.g.grown hg0 h.g.size (fun k hk => by cases hk)
    exact h1.grown hgr h1.size (fun k hk => by have := (World.ownsRow.lt h.cel k hk).1; have := h.hS; omega)
theorem Sh.state {w0 w : World} {S : Nat} {rs : List (List Cell × Value)} {C : List Cell} {cell : Cell} {n : Int} {vr vc vb : Value} (h : Sh w0 w S rs C cell n vr vc vb) (n' : Int) : Sh w0 (w.setCell ⟨S, 3, none⟩ (.int .i64 n')) S rs C cell n' vr vc vb :=
  ⟨by simp [go_sem, h.c0], by simp [go_sem, h.c1], by simp [go_sem, h.c2], by simp [go_sem, h.c3], fun i => by simp [go_sem, h.z i], h.o.set 3 _⟩
theorem Sh.cellAt {w0 w4 : World} {S : Nat} {rs : List (List Cell × Value)} {C : List Cell} {cell : Cell} {n : Int} {vr vc vb vb' : Value} (k0 : w4.cell? ⟨S, 0, none⟩ = some vr) (k1 : w4.cell? ⟨S, 1, none⟩ = some vc) (k2 : w4.cell? ⟨S, 2, none⟩ = some vb) (k3 : w4.cell? ⟨S, 3, none⟩ = some (.int .i64 n)) (kz : ∀ i, w4.frozen? ⟨S, i, none⟩ = false) (o : ShO w0 w4 S rs C cell vr vc vb') : Sh w0 (w4.setCell ⟨S, 2, none⟩ vb') S rs C cell n vr vc vb' :=
  ⟨by simp [go_sem, k0], by simp [go_sem, k1], by simp [go_sem, k2], by simp [go_sem, k3], fun i => by simp [go_sem, kz i], o.set 2 _⟩
/-- which opening quote the state tells of -/
def opened (st : St) (op : Nat) : Prop := ∀ o, st = .quoted o ∨ st = .shut o → op = o
theorem drop_at {l : List UInt8} {i : Nat} {b : UInt8} (h : l[i]? = some b) : l.drop i = b :: l.drop (i + 1) := by
  obtain ⟨hi, rfl⟩ := List.getElem?_eq_some_iff.1 h
  exact List.drop_eq_getElem_cons hi
set_option maxRecDepth 100000 in
theorem refSplit_any (T : ByteArray) (w : World) : Calls Tryd.prog 12 #[.string T] w (SplitIs w T.data.toList) := by
  have HSZ : Hid (T.data.toList.length = T.size) := (Lib.size_eq T).symm
  obtain ⟨i5, hi5, b0, b1, b2⟩ := info_parts infoByte
  by_cases hlong : 65536 < T.size
  · have d1 : decide ((65536 : Int) < (T.size : Int)) = true := by simp; omega
    have HL := Lib.hid hlong
    clear hlong
    go_enter Tryd.func12, Tryd.ntmps12
    go_wp2
    first | go_ret3 | skip
    refine ⟨Below.refl _ _, ?_⟩
    rw [if_pos (by rw [HSZ.out]; exact HL.out)]
    exact ⟨rfl, by decide⟩
  · have d1 : decide ((65536 : Int) < (T.size : Int)) = false := by simp; omega
    go_enter Tryd.func12, Tryd.ntmps12
    go_wp2
    obtain ⟨wa, hwa⟩ : ∃ x, x = w.alloc (.cells #[.slice none 0 0, .slice none 0 0, .slice none 0 0, .int .i64 0] 64) := ⟨_, rfl⟩
    have hba : Below w.heap.size w wa := by rw [hwa]; exact (Below.refl _ _).alloc (Nat.le_refl _) _
    have hsh : Sh w wa w.heap.size [] [] [] 0 (.slice none 0 0) (.slice none 0 0) (.slice none 0 0) := by
      refine ⟨?_, ?_, ?_, ?_, ?_, Rows.nil _ _, OutS.nil _ _, Out.nil _ _, by simp, Nat.le_refl _, hba⟩
      · rw [hwa]; simp [go_sem]
      · rw [hwa]; simp [go_sem]
      · rw [hwa]; simp [go_sem]
      · rw [hwa]; simp [go_sem]
      · intro i; rw [hwa]; simp [go_sem]
    rw [← hwa]
    obtain ⟨S, hS⟩ : ∃ S, S = w.heap.size := ⟨_, rfl⟩
    rw [← hS] at hsh ⊢
    have HSH := Lib.hid hsh
    have HSE := Lib.hid hS
    have hT : T.size ≤ 65536 := by omega
    have HLN : Hid ((if 65536 < T.data.toList.length then Sp.bad 2 0 else splitL T.data.toList) = splitL T.data.toList) := by show _ = _; rw [if_neg (by rw [HSZ.out]; exact hlong)]
    clear hwa hba hsh hS
    go_loopw [6, 7] (fun ov iv wr => ∃ (i op : Nat) (rs : List (List Cell × Value)) (C : List Cell) (cell : Cell) (st : St) (vr vc vb : Value), i ≤ T.size ∧ iv = .int .i64 i ∧ ov = .int .i64 op ∧ op ≤ 65536 ∧ Sh w wr S rs C cell (stN st) vr vc vb ∧ opened st op ∧ splitL T.data.toList = run (T.data.toList.drop i) (rs.map (·.1)) C cell st i ∧ C.length ≤ i ∧ cell.length ≤ i ∧ rs.length ≤ i ∧ (st = .start → cell = []) ∧ (st = .start → i = T.size → C = [])) (fun _ iv _ => T.size - (intOf iv).toNat)
    case atStart => exact ⟨0, 0, [], [], [], .start, _, _, _, Nat.zero_le _, rfl, rfl, by omega, HSH.out, (by intro o h; rcases h with h | h <;> cases h), rfl, by simp, by simp, by simp, fun _ => rfl, fun _ _ => rfl⟩
    case round =>
      obtain ⟨i, op, rs, C, cell, st, vr, vc, vb, hi, rfl, rfl, hop, hsh, hopn, hsp, hC, hcl, hrl, hst, hce⟩ := hrel
      obtain ⟨bp, bc, rfl⟩ := own_slice hsh.o.cel
      have SH := Lib.hid hsh
      have HOP := Lib.hid hopn
      have HSP := Lib.hid hsp
      have HC := Lib.hid hC
      have HCL := Lib.hid hcl
      have HRL := Lib.hid hrl
      have HST := Lib.hid hst
      have HCE := Lib.hid hce
      obtain ⟨c0, c1, c2, c3, z, _⟩ := hsh
      have z0 := z 0
      have z1 := z 1
      have z2 := z 2
      have z3 := z 3
      have hlt := SH.out.lt
      clear z hopn hsp hC hcl hrl hst hce
      by_cases hit : i < T.size
      · obtain ⟨b, hb⟩ : ∃ b, T[i]'hit = b := ⟨_, rfl⟩
        have hbl : T.data.toList[i]? = some b := by rw [Lib.data_getElem? T i hit, hb]
        have hdr := drop_at hbl
        rw [hdr] at HSP
        have HDR := Lib.hid hdr
        clear hbl hdr
        have hCm : C.length ≤ 100000 := by have := HC.out; omega
        have hclm : cell.length ≤ 100000 := by have := HCL.out; omega
        have hrlm : rs.length ≤ 100000 := by have := HRL.out; omega
        have HCm := Lib.hid hCm
        have HCLm := Lib.hid hclm
        have HRLm := Lib.hid hrlm
        clear hCm hclm hrlm
        cases st with
        | quoted o =>
          simp only [stN] at c3
          by_cases h34 : b = 34
          · have e34 : ((b.toNat : Int) == 34) = true := by rw [h34]; rfl
            have hrun : splitL T.data.toList = run (T.data.toList.drop (i + 1)) (rs.map (·.1)) C cell (.shut o) (i + 1) := by rw [HSP.out]; simp [run, h34]
            have HRUN := Lib.hid hrun
            have HOPN : Hid (opened (.shut o) op) := by
              intro o' h
              rcases h with h | h
              · cases h
              · exact HOP.out o' (.inl (by cases h; rfl))
            clear hrun h34
            go_wp2
            go_roundw
            case rel => exact ⟨i + 1, op, rs, C, cell, (.shut o), _, _, _, by omega, by go_num, rfl, hop, SH.out.state 3, HOPN.out, HRUN.out, by have := HC.out; omega, by have := HCL.out; omega, by have := HRL.out; omega, (by intro e; cases e), (by intro e; cases e)⟩
            case measure => simp [intOf]; omega
          · have e34 : ((b.toNat : Int) == 34) = false := by
              rw [beq_eq_false_iff_ne]
              intro e
              exact h34 (UInt8.toNat_inj.1 (by have : b.toNat = 34 := by omega
                                               simpa using this))
            have hrun : splitL T.data.toList = run (T.data.toList.drop (i + 1)) (rs.map (·.1)) C (cell ++ [b]) (.quoted o) (i + 1) := by rw [HSP.out]; simp [run, h34]
            have HRUN := Lib.hid hrun
            have HOPN : Hid (opened (.quoted o) op) := HOP.out
            clear hrun h34
            have hm1 : cell.length + 1 ≤ maxLen := by have := HCLm.out; unfold maxLen; omega
            have hm2 : (cell.length + 1) * 1 ≤ 140737488355328 := by have := HCLm.out; omega
            have HSW : Hid (∀ o : Obj, S + 1 ≤ (wr.alloc o).heap.size) := fun o => (by simp; omega)
            have HOW : Hid (wr.ownsRow (S + 1) 5 1 (.slice bp cell.length bc) cell.length (Lib.byteCells cell)) := SH.out.o.cel
            have HRW : Hid (∀ k, (Value.slice bp cell.length bc).ownBlock = some k → S + 1 ≤ k) := fun k hk => (World.ownsRow.lt HOW.out k hk).1
            go_wp2_with (at_builtin; refine wpList_append_lies _ rfl _ _ 57 rfl (S + 1) 5 i5 (.int .u8 0) 1 1 Tryd.underlying57 hi5 b0 b1 b2 rfl (by decide) _ _ _ rfl (World.ownsRow.alloc HOW.out _) ⟨wr.heap.size, 0, none⟩ 1 1 [.int .u8 (b.toNat : Int)] rfl rfl (lit_cells wr _ _) (by intro u hu; simp at hu; subst hu; rfl) (by decide) hm1 hm2 (HSW.out _) (wr.heap.size + 1) (by simp) ?_)
            intro g4 cap4 w4 hown4 hgr4 hwh4 hlt4
            have hk := kept_at (w := wr) (S := S) (o := .cells #[.int .u8 (b.toNat : Int)] 5) hgr4 HRW.out SH.out.lt rfl
            have k0 := (World.cell?_of_block (a := ⟨S, 0, none⟩) hk).trans SH.out.c0
            have k1 := (World.cell?_of_block (a := ⟨S, 1, none⟩) hk).trans SH.out.c1
            have k2 := (World.cell?_of_block (a := ⟨S, 2, none⟩) hk).trans SH.out.c2
            have k3 := (World.cell?_of_block (a := ⟨S, 3, none⟩) hk).trans SH.out.c3
            have kz : ∀ i, w4.frozen? ⟨S, i, none⟩ = false := fun i => (World.frozen?_of_block (a := ⟨S, i, none⟩) hk).trans (SH.out.z i)
            have y2 := kz 2
            have y3 := kz 3
            have hO4 := SH.out.o.byte (b := b) (World.grownBy_alloc wr _ none) rfl hown4 hgr4
            have SH4 := Lib.hid (Sh.cellAt k0 k1 k2 k3 kz hO4)
            simp only [stN] at k3
            clear hown4 hgr4 hwh4 hlt4 hk hO4 kz c0 c1 c2 c3 z0 z1 z2 z3 k0 k1 hm1 hm2
            go_wp2
            go_roundw
            case rel => exact ⟨i + 1, op, rs, C, cell ++ [b], (.quoted o), _, _, _, by omega, by go_num, rfl, hop, SH4.out, HOPN.out, HRUN.out, by have := HC.out; omega, by have := HCL.out; simp; omega, by have := HRL.out; omega, (by intro e; cases e), (by intro e; cases e)⟩
            case measure => simp [intOf]; omega
        | start =>
          simp only [stN] at c3
          by_cases h44 : b = 44
          · have h10 : b ≠ 10 := by rw [h44]; decide
            have h13 : b ≠ 13 := by rw [h44]; decide
            have h34 : b ≠ 34 := by rw [h44]; decide
            have e44 : ((b.toNat : Int) == 44) = true := by rw [h44]; rfl
            have e10 : ((b.toNat : Int) == 10) = false := by
              rw [beq_eq_false_iff_ne]
              intro e
              exact h10 (UInt8.toNat_inj.1 (by have hh : b.toNat = 10 := (by omega); simpa using hh))
            have e13 : ((b.toNat : Int) == 13) = false := by
              rw [beq_eq_false_iff_ne]
              intro e
              exact h13 (UInt8.toNat_inj.1 (by have hh : b.toNat = 13 := (by omega); simpa using hh))
            have e34 : ((b.toNat : Int) == 34) = false := by
              rw [beq_eq_false_iff_ne]
              intro e
              exact h34 (UInt8.toNat_inj.1 (by have hh : b.toNat = 34 := (by omega); simpa using hh))
            have hrun : splitL T.data.toList = run (T.data.toList.drop (i + 1)) (rs.map (·.1)) (C ++ [cell]) [] .start (i + 1) := by rw [HSP.out]; simp [run, h44]
            have HRUN := Lib.hid hrun
            clear hrun h44 h10 h13 h34
            go_wp2_with fail
            refine (endCell_any w wr S rs C cell _ vr vc _ SH.out HCm.out HCLm.out).mono ?_
            rintro e w2 ⟨rfl, vc2, hsh2⟩
            have SH2 := Lib.hid hsh2
            have HCm2 : Hid ((C ++ [cell]).length ≤ 100000) := by have := HC.out; show _ ≤ _; simp; omega
            clear hsh2 c0 c1 c2 c3 z0 z1 z2 z3
            by_cases hlast : i + 1 = T.size
            · have dl : ((i : Int) + 1 == (T.size : Int)) = true := by rw [← hlast]; simp
              have hrun2 : splitL T.data.toList = run (T.data.toList.drop (i + 1)) ((rs.map (·.1)) ++ [C ++ [cell] ++ [[]]]) [] [] .start (i + 1) := by
                rw [HRUN.out, List.drop_eq_nil_of_le (by rw [HSZ.out]; omega)]
                simp [run]
              have HRUN2 := Lib.hid hrun2
              clear hrun2
              go_wp2_with fail
              refine (endRow_any w w2 S rs (C ++ [cell]) [] _ vr vc2 _ SH2.out HCm2.out (by simp) HRLm.out).mono ?_
              rintro e w3 ⟨rfl, vr3, vc3, hsh3⟩
              have SH3 := Lib.hid hsh3
              clear hsh3
              go_wp2
              go_roundw
              case rel => exact ⟨i + 1, op, rs ++ [(C ++ [cell] ++ [[]], vc3)], [], [], .start, _, _, _, by omega, by go_num, rfl, hop, SH3.out, (by intro o h; rcases h with h | h <;> cases h), by rw [HRUN2.out, List.map_append]; rfl, by simp, by simp, by have := HRL.out; simp; omega, fun _ => rfl, fun _ _ => rfl⟩
              case measure => simp [intOf]; omega
            · have dl : ((i : Int) + 1 == (T.size : Int)) = false := by
                rw [beq_eq_false_iff_ne]
                omega
              go_wp2
              go_roundw
              case rel => exact ⟨i + 1, op, rs, C ++ [cell], [], .start, _, _, _, by omega, by go_num, rfl, hop, SH2.out, (by intro o h; rcases h with h | h <;> cases h), HRUN.out, by have := HC.out; simp; omega, by simp, by have := HRL.out; omega, fun _ => rfl, fun _ hc => absurd hc hlast⟩
              case measure => simp [intOf]; omega
          · by_cases h10 : b = 10
            · have h13 : b ≠ 13 := by rw [h10]; decide
              have h34 : b ≠ 34 := by rw [h10]; decide
              have e44 : ((b.toNat : Int) == 44) = false := by
                rw [beq_eq_false_iff_ne]
                intro e
                exact h44 (UInt8.toNat_inj.1 (by have hh : b.toNat = 44 := (by omega); simpa using hh))
              have e10 : ((b.toNat : Int) == 10) = true := by rw [h10]; rfl
              have e13 : ((b.toNat : Int) == 13) = false := by
                rw [beq_eq_false_iff_ne]
                intro e
                exact h13 (UInt8.toNat_inj.1 (by have hh : b.toNat = 13 := (by omega); simpa using hh))
              have e34 : ((b.toNat : Int) == 34) = false := by
                rw [beq_eq_false_iff_ne]
                intro e
                exact h34 (UInt8.toNat_inj.1 (by have hh : b.toNat = 34 := (by omega); simpa using hh))
              have hrun : splitL T.data.toList = run (T.data.toList.drop (i + 1)) ((rs.map (·.1)) ++ [C ++ [cell]]) [] [] .start (i + 1) := by rw [HSP.out]; simp [run, h10]
              have HRUN := Lib.hid hrun
              clear hrun h44 h10 h13 h34
              go_wp2_with fail
              refine (endRow_any w wr S rs C cell _ vr vc _ SH.out HCm.out HCLm.out HRLm.out).mono ?_
              rintro e w3 ⟨rfl, vr3, vc3, hsh3⟩
              have SH3 := Lib.hid hsh3
              clear hsh3 c0 c1 c2 c3 z0 z1 z2 z3
              go_wp2
              go_roundw
              case rel => exact ⟨i + 1, op, rs ++ [(C ++ [cell], vc3)], [], [], .start, _, _, _, by omega, by go_num, rfl, hop, SH3.out, (by intro o h; rcases h with h | h <;> cases h), by rw [HRUN.out, List.map_append]; rfl, by simp, by simp, by have := HRL.out; simp; omega, fun _ => rfl, fun _ _ => rfl⟩
              case measure => simp [intOf]; omega
            · by_cases h13 : b = 13
              · have h34 : b ≠ 34 := by rw [h13]; decide
                have e44 : ((b.toNat : Int) == 44) = false := by
                  rw [beq_eq_false_iff_ne]
                  intro e
                  exact h44 (UInt8.toNat_inj.1 (by have hh : b.toNat = 44 := (by omega); simpa using hh))
                have e10 : ((b.toNat : Int) == 10) = false := by
                  rw [beq_eq_false_iff_ne]
                  intro e
                  exact h10 (UInt8.toNat_inj.1 (by have hh : b.toNat = 10 := (by omega); simpa using hh))
                have e13 : ((b.toNat : Int) == 13) = true := by rw [h13]; rfl
                have e34 : ((b.toNat : Int) == 34) = false := by
                  rw [beq_eq_false_iff_ne]
                  intro e
                  exact h34 (UInt8.toNat_inj.1 (by have hh : b.toNat = 34 := (by omega); simpa using hh))
                by_cases hlast : i + 1 = T.size
                · have dl : ((i : Int) + 1 == (T.size : Int)) = true := by rw [← hlast]; simp
                  have hnil : T.data.toList.drop (i + 1) = [] := List.drop_eq_nil_of_le (by rw [HSZ.out]; omega)
                  have hbad : splitL T.data.toList = .bad 41 i := by rw [HSP.out]; rw [hnil]; simp [run, h13]
                  have HBAD := Lib.hid hbad
                  clear hbad hnil h44 h10 h13 h34
                  go_wp2
                  first | go_ret3 | skip
                  refine ⟨SH.out.o.g, ?_⟩
                  rw [HLN.out, HBAD.out]
                  exact ⟨rfl, by decide⟩
                · have dl : ((i : Int) + 1 == (T.size : Int)) = false := by
                    rw [beq_eq_false_iff_ne]
                    omega
                  have hi2 : i + 1 < T.size := by omega
                  obtain ⟨b2_, hb2⟩ : ∃ b2_, T[i + 1]'hi2 = b2_ := ⟨_, rfl⟩
                  have hd2 := drop_at (l := T.data.toList) (i := i + 1) (b := b2_) (by rw [Lib.data_getElem? T (i + 1) hi2, hb2])
                  by_cases hl2 : b2_ = 10
                  · have dn : ((b2_.toNat : Int) != 10) = false := by rw [hl2]; rfl
                    have hrun : splitL T.data.toList = run (T.data.toList.drop (i + 1)) (rs.map (·.1)) C cell .start (i + 1) := by rw [HSP.out, hd2, hl2]; simp [run, h13]
                    have HRUN := Lib.hid hrun
                    clear hrun hd2 hl2 h44 h10 h13 h34
                    go_wp2
                    go_roundw
                    case rel => exact ⟨i + 1, op, rs, C, cell, .start, _, _, _, by omega, by go_num, rfl, hop, SH.out, (by intro o' h; exact HOP.out o' h), HRUN.out, by have := HC.out; omega, by have := HCL.out; omega, by have := HRL.out; omega, HST.out, fun _ hc => absurd hc (Nat.ne_of_lt hi2)⟩
                    case measure => simp [intOf]; omega
                  · have dn : ((b2_.toNat : Int) != 10) = true := by
                      rw [bne_iff_ne]
                      intro e
                      exact hl2 (UInt8.toNat_inj.1 (by have hh : b2_.toNat = 10 := (by omega); simpa using hh))
                    have hbad : splitL T.data.toList = .bad 41 i := by rw [HSP.out]; rw [hd2]; simp [run, h13, hl2]
                    have HBAD := Lib.hid hbad
                    clear hbad hd2 hl2 h44 h10 h13 h34
                    go_wp2
                    first | go_ret3 | skip
                    refine ⟨SH.out.o.g, ?_⟩
                    rw [HLN.out, HBAD.out]
                    exact ⟨rfl, by decide⟩
              · by_cases h34 : b = 34
                · clear h44 h10 h13
                  have h44 : b ≠ 44 := by rw [h34]; decide
                  have h10 : b ≠ 10 := by rw [h34]; decide
                  have h13 : b ≠ 13 := by rw [h34]; decide
                  have e44 : ((b.toNat : Int) == 44) = false := by
                    rw [beq_eq_false_iff_ne]
                    intro e
                    exact h44 (UInt8.toNat_inj.1 (by have hh : b.toNat = 44 := (by omega); simpa using hh))
                  have e10 : ((b.toNat : Int) == 10) = false := by
                    rw [beq_eq_false_iff_ne]
                    intro e
                    exact h10 (UInt8.toNat_inj.1 (by have hh : b.toNat = 10 := (by omega); simpa using hh))
                  have e13 : ((b.toNat : Int) == 13) = false := by
                    rw [beq_eq_false_iff_ne]
                    intro e
                    exact h13 (UInt8.toNat_inj.1 (by have hh : b.toNat = 13 := (by omega); simpa using hh))
                  have e34 : ((b.toNat : Int) == 34) = true := by rw [h34]; rfl
                  have hcn : cell = [] := HST.out rfl
                  have hrun : splitL T.data.toList = run (T.data.toList.drop (i + 1)) (rs.map (·.1)) C cell (.quoted i) (i + 1) := by rw [HSP.out, hcn]; simp [run, h34]
                  have HRUN := Lib.hid hrun
                  clear hrun hcn h44 h10 h13 h34
                  go_wp2
                  go_roundw
                  case rel => exact ⟨i + 1, i, rs, C, cell, (.quoted i), _, _, _, by omega, by go_num, rfl, by omega, SH.out.state 2, (by intro o h; rcases h with h | h <;> cases h; rfl), HRUN.out, by have := HC.out; omega, by have := HCL.out; omega, by have := HRL.out; omega, (by intro e; cases e), (by intro e; cases e)⟩
                  case measure => simp [intOf]; omega
                · have e44 : ((b.toNat : Int) == 44) = false := by
                    rw [beq_eq_false_iff_ne]
                    intro e
                    exact h44 (UInt8.toNat_inj.1 (by have hh : b.toNat = 44 := (by omega); simpa using hh))
                  have e10 : ((b.toNat : Int) == 10) = false := by
                    rw [beq_eq_false_iff_ne]
                    intro e
                    exact h10 (UInt8.toNat_inj.1 (by have hh : b.toNat = 10 := (by omega); simpa using hh))
                  have e13 : ((b.toNat : Int) == 13) = false := by
                    rw [beq_eq_false_iff_ne]
                    intro e
                    exact h13 (UInt8.toNat_inj.1 (by have hh : b.toNat = 13 := (by omega); simpa using hh))
                  have e34 : ((b.toNat : Int) == 34) = false := by
                    rw [beq_eq_false_iff_ne]
                    intro e
                    exact h34 (UInt8.toNat_inj.1 (by have hh : b.toNat = 34 := (by omega); simpa using hh))
                  have hrun : splitL T.data.toList = run (T.data.toList.drop (i + 1)) (rs.map (·.1)) C (cell ++ [b]) .plain (i + 1) := by rw [HSP.out]; simp [run, h44, h10, h13, h34]
                  have HRUN := Lib.hid hrun
                  clear hrun h44 h10 h13 h34
                  have hm1 : cell.length + 1 ≤ maxLen := by have := HCLm.out; unfold maxLen; omega
                  have hm2 : (cell.length + 1) * 1 ≤ 140737488355328 := by have := HCLm.out; omega
                  have HSW : Hid (∀ o : Obj, S + 1 ≤ (wr.alloc o).heap.size) := fun o => (by simp; omega)
                  have HOW : Hid (wr.ownsRow (S + 1) 5 1 (.slice bp cell.length bc) cell.length (Lib.byteCells cell)) := SH.out.o.cel
                  have HRW : Hid (∀ k, (Value.slice bp cell.length bc).ownBlock = some k → S + 1 ≤ k) := fun k hk => (World.ownsRow.lt HOW.out k hk).1
                  go_wp2_with (at_builtin; refine wpList_append_lies _ rfl _ _ 57 rfl (S + 1) 5 i5 (.int .u8 0) 1 1 Tryd.underlying57 hi5 b0 b1 b2 rfl (by decide) _ _ _ rfl (World.ownsRow.alloc HOW.out _) ⟨wr.heap.size, 0, none⟩ 1 1 [.int .u8 (b.toNat : Int)] rfl rfl (lit_cells wr _ _) (by intro u hu; simp at hu; subst hu; rfl) (by decide) hm1 hm2 (HSW.out _) (wr.heap.size + 1) (by simp) ?_)
                  intro g4 cap4 w4 hown4 hgr4 hwh4 hlt4
                  have hk := kept_at (w := wr) (S := S) (o := .cells #[.int .u8 (b.toNat : Int)] 5) hgr4 HRW.out SH.out.lt rfl
                  have k0 := (World.cell?_of_block (a := ⟨S, 0, none⟩) hk).trans SH.out.c0
                  have k1 := (World.cell?_of_block (a := ⟨S, 1, none⟩) hk).trans SH.out.c1
                  have k2 := (World.cell?_of_block (a := ⟨S, 2, none⟩) hk).trans SH.out.c2
                  have k3 := (World.cell?_of_block (a := ⟨S, 3, none⟩) hk).trans SH.out.c3
                  have kz : ∀ i, w4.frozen? ⟨S, i, none⟩ = false := fun i => (World.frozen?_of_block (a := ⟨S, i, none⟩) hk).trans (SH.out.z i)
                  have y2 := kz 2
                  have y3 := kz 3
                  have hO4 := SH.out.o.byte (b := b) (World.grownBy_alloc wr _ none) rfl hown4 hgr4
                  have SH4 := Lib.hid (Sh.cellAt k0 k1 k2 k3 kz hO4)
                  simp only [stN] at k3
                  clear hown4 hgr4 hwh4 hlt4 hk hO4 kz c0 c1 c2 c3 z0 z1 z2 z3 k0 k1 hm1 hm2
                  go_wp2
                  go_roundw
                  case rel => exact ⟨i + 1, op, rs, C, cell ++ [b], .plain, _, _, _, by omega, by go_num, rfl, hop, SH4.out.state 1, (by intro o h; rcases h with h | h <;> cases h), HRUN.out, by have := HC.out; omega, by have := HCL.out; simp; omega, by have := HRL.out; omega, (by intro e; cases e), (by intro e; cases e)⟩
                  case measure => simp [intOf]; omega
        | plain =>
          simp only [stN] at c3
          by_cases h44 : b = 44
          · have h10 : b ≠ 10 := by rw [h44]; decide
            have h13 : b ≠ 13 := by rw [h44]; decide
            have h34 : b ≠ 34 := by rw [h44]; decide
            have e44 : ((b.toNat : Int) == 44) = true := by rw [h44]; rfl
            have e10 : ((b.toNat : Int) == 10) = false := by
              rw [beq_eq_false_iff_ne]
              intro e
              exact h10 (UInt8.toNat_inj.1 (by have hh : b.toNat = 10 := (by omega); simpa using hh))
            have e13 : ((b.toNat : Int) == 13) = false := by
              rw [beq_eq_false_iff_ne]
              intro e
              exact h13 (UInt8.toNat_inj.1 (by have hh : b.toNat = 13 := (by omega); simpa using hh))
            have e34 : ((b.toNat : Int) == 34) = false := by
              rw [beq_eq_false_iff_ne]
              intro e
              exact h34 (UInt8.toNat_inj.1 (by have hh : b.toNat = 34 := (by omega); simpa using hh))
            have hrun : splitL T.data.toList = run (T.data.toList.drop (i + 1)) (rs.map (·.1)) (C ++ [cell]) [] .start (i + 1) := by rw [HSP.out]; simp [run, h44]
            have HRUN := Lib.hid hrun
            clear hrun h44 h10 h13 h34
            go_wp2_with fail
            refine (endCell_any w wr S rs C cell _ vr vc _ SH.out HCm.out HCLm.out).mono ?_
            rintro e w2 ⟨rfl, vc2, hsh2⟩
            have SH2 := Lib.hid hsh2
            have HCm2 : Hid ((C ++ [cell]).length ≤ 100000) := by have := HC.out; show _ ≤ _; simp; omega
            clear hsh2 c0 c1 c2 c3 z0 z1 z2 z3
            by_cases hlast : i + 1 = T.size
            · have dl : ((i : Int) + 1 == (T.size : Int)) = true := by rw [← hlast]; simp
              have hrun2 : splitL T.data.toList = run (T.data.toList.drop (i + 1)) ((rs.map (·.1)) ++ [C ++ [cell] ++ [[]]]) [] [] .start (i + 1) := by
                rw [HRUN.out, List.drop_eq_nil_of_le (by rw [HSZ.out]; omega)]
                simp [run]
              have HRUN2 := Lib.hid hrun2
              clear hrun2
              go_wp2_with fail
              refine (endRow_any w w2 S rs (C ++ [cell]) [] _ vr vc2 _ SH2.out HCm2.out (by simp) HRLm.out).mono ?_
              rintro e w3 ⟨rfl, vr3, vc3, hsh3⟩
              have SH3 := Lib.hid hsh3
              clear hsh3
              go_wp2
              go_roundw
              case rel => exact ⟨i + 1, op, rs ++ [(C ++ [cell] ++ [[]], vc3)], [], [], .start, _, _, _, by omega, by go_num, rfl, hop, SH3.out, (by intro o h; rcases h with h | h <;> cases h), by rw [HRUN2.out, List.map_append]; rfl, by simp, by simp, by have := HRL.out; simp; omega, fun _ => rfl, fun _ _ => rfl⟩
              case measure => simp [intOf]; omega
            · have dl : ((i : Int) + 1 == (T.size : Int)) = false := by
                rw [beq_eq_false_iff_ne]
                omega
              go_wp2
              go_roundw
              case rel => exact ⟨i + 1, op, rs, C ++ [cell], [], .start, _, _, _, by omega, by go_num, rfl, hop, SH2.out, (by intro o h; rcases h with h | h <;> cases h), HRUN.out, by have := HC.out; simp; omega, by simp, by have := HRL.out; omega, fun _ => rfl, fun _ hc => absurd hc hlast⟩
              case measure => simp [intOf]; omega
          · by_cases h10 : b = 10
            · have h13 : b ≠ 13 := by rw [h10]; decide
              have h34 : b ≠ 34 := by rw [h10]; decide
              have e44 : ((b.toNat : Int) == 44) = false := by
                rw [beq_eq_false_iff_ne]
                intro e
                exact h44 (UInt8.toNat_inj.1 (by have hh : b.toNat = 44 := (by omega); simpa using hh))
              have e10 : ((b.toNat : Int) == 10) = true := by rw [h10]; rfl
              have e13 : ((b.toNat : Int) == 13) = false := by
                rw [beq_eq_false_iff_ne]
                intro e
                exact h13 (UInt8.toNat_inj.1 (by have hh : b.toNat = 13 := (by omega); simpa using hh))
              have e34 : ((b.toNat : Int) == 34) = false := by
                rw [beq_eq_false_iff_ne]
                intro e
                exact h34 (UInt8.toNat_inj.1 (by have hh : b.toNat = 34 := (by omega); simpa using hh))
              have hrun : splitL T.data.toList = run (T.data.toList.drop (i + 1)) ((rs.map (·.1)) ++ [C ++ [cell]]) [] [] .start (i + 1) := by rw [HSP.out]; simp [run, h10]
              have HRUN := Lib.hid hrun
              clear hrun h44 h10 h13 h34
              go_wp2_with fail
              refine (endRow_any w wr S rs C cell _ vr vc _ SH.out HCm.out HCLm.out HRLm.out).mono ?_
              rintro e w3 ⟨rfl, vr3, vc3, hsh3⟩
              have SH3 := Lib.hid hsh3
              clear hsh3 c0 c1 c2 c3 z0 z1 z2 z3
              go_wp2
              go_roundw
              case rel => exact ⟨i + 1, op, rs ++ [(C ++ [cell], vc3)], [], [], .start, _, _, _, by omega, by go_num, rfl, hop, SH3.out, (by intro o h; rcases h with h | h <;> cases h), by rw [HRUN.out, List.map_append]; rfl, by simp, by simp, by have := HRL.out; simp; omega, fun _ => rfl, fun _ _ => rfl⟩
              case measure => simp [intOf]; omega
            · by_cases h13 : b = 13
              · have h34 : b ≠ 34 := by rw [h13]; decide
                have e44 : ((b.toNat : Int) == 44) = false := by
                  rw [beq_eq_false_iff_ne]
                  intro e
                  exact h44 (UInt8.toNat_inj.1 (by have hh : b.toNat = 44 := (by omega); simpa using hh))
                have e10 : ((b.toNat : Int) == 10) = false := by
                  rw [beq_eq_false_iff_ne]
                  intro e
                  exact h10 (UInt8.toNat_inj.1 (by have hh : b.toNat = 10 := (by omega); simpa using hh))
                have e13 : ((b.toNat : Int) == 13) = true := by rw [h13]; rfl
                have e34 : ((b.toNat : Int) == 34) = false := by
                  rw [beq_eq_false_iff_ne]
                  intro e
                  exact h34 (UInt8.toNat_inj.1 (by have hh : b.toNat = 34 := (by omega); simpa using hh))
                by_cases hlast : i + 1 = T.size
                · have dl : ((i : Int) + 1 == (T.size : Int)) = true := by rw [← hlast]; simp
                  have hnil : T.data.toList.drop (i + 1) = [] := List.drop_eq_nil_of_le (by rw [HSZ.out]; omega)
                  have hbad : splitL T.data.toList = .bad 41 i := by rw [HSP.out]; rw [hnil]; simp [run, h13]
                  have HBAD := Lib.hid hbad
                  clear hbad hnil h44 h10 h13 h34
                  go_wp2
                  first | go_ret3 | skip
                  refine ⟨SH.out.o.g, ?_⟩
                  rw [HLN.out, HBAD.out]
                  exact ⟨rfl, by decide⟩
                · have dl : ((i : Int) + 1 == (T.size : Int)) = false := by
                    rw [beq_eq_false_iff_ne]
                    omega
                  have hi2 : i + 1 < T.size := by omega
                  obtain ⟨b2_, hb2⟩ : ∃ b2_, T[i + 1]'hi2 = b2_ := ⟨_, rfl⟩
                  have hd2 := drop_at (l := T.data.toList) (i := i + 1) (b := b2_) (by rw [Lib.data_getElem? T (i + 1) hi2, hb2])
                  by_cases hl2 : b2_ = 10
                  · have dn : ((b2_.toNat : Int) != 10) = false := by rw [hl2]; rfl
                    have hrun : splitL T.data.toList = run (T.data.toList.drop (i + 1)) (rs.map (·.1)) C cell .plain (i + 1) := by rw [HSP.out, hd2, hl2]; simp [run, h13]
                    have HRUN := Lib.hid hrun
                    clear hrun hd2 hl2 h44 h10 h13 h34
                    go_wp2
                    go_roundw
                    case rel => exact ⟨i + 1, op, rs, C, cell, .plain, _, _, _, by omega, by go_num, rfl, hop, SH.out, (by intro o' h; exact HOP.out o' h), HRUN.out, by have := HC.out; omega, by have := HCL.out; omega, by have := HRL.out; omega, HST.out, (by intro e; cases e)⟩
                    case measure => simp [intOf]; omega
                  · have dn : ((b2_.toNat : Int) != 10) = true := by
                      rw [bne_iff_ne]
                      intro e
                      exact hl2 (UInt8.toNat_inj.1 (by have hh : b2_.toNat = 10 := (by omega); simpa using hh))
                    have hbad : splitL T.data.toList = .bad 41 i := by rw [HSP.out]; rw [hd2]; simp [run, h13, hl2]
                    have HBAD := Lib.hid hbad
                    clear hbad hd2 hl2 h44 h10 h13 h34
                    go_wp2
                    first | go_ret3 | skip
                    refine ⟨SH.out.o.g, ?_⟩
                    rw [HLN.out, HBAD.out]
                    exact ⟨rfl, by decide⟩
              · by_cases h34 : b = 34
                · clear h44 h10 h13
                  have h44 : b ≠ 44 := by rw [h34]; decide
                  have h10 : b ≠ 10 := by rw [h34]; decide
                  have h13 : b ≠ 13 := by rw [h34]; decide
                  have e44 : ((b.toNat : Int) == 44) = false := by
                    rw [beq_eq_false_iff_ne]
                    intro e
                    exact h44 (UInt8.toNat_inj.1 (by have hh : b.toNat = 44 := (by omega); simpa using hh))
                  have e10 : ((b.toNat : Int) == 10) = false := by
                    rw [beq_eq_false_iff_ne]
                    intro e
                    exact h10 (UInt8.toNat_inj.1 (by have hh : b.toNat = 10 := (by omega); simpa using hh))
                  have e13 : ((b.toNat : Int) == 13) = false := by
                    rw [beq_eq_false_iff_ne]
                    intro e
                    exact h13 (UInt8.toNat_inj.1 (by have hh : b.toNat = 13 := (by omega); simpa using hh))
                  have e34 : ((b.toNat : Int) == 34) = true := by rw [h34]; rfl
                  have hbad : splitL T.data.toList = .bad 40 i := by rw [HSP.out]; simp [run, h34]
                  have HBAD := Lib.hid hbad
                  clear hbad h44 h10 h13 h34
                  go_wp2
                  first | go_ret3 | skip
                  refine ⟨SH.out.o.g, ?_⟩
                  rw [HLN.out, HBAD.out]
                  exact ⟨rfl, by decide⟩
                · have e44 : ((b.toNat : Int) == 44) = false := by
                    rw [beq_eq_false_iff_ne]
                    intro e
                    exact h44 (UInt8.toNat_inj.1 (by have hh : b.toNat = 44 := (by omega); simpa using hh))
                  have e10 : ((b.toNat : Int) == 10) = false := by
                    rw [beq_eq_false_iff_ne]
                    intro e
                    exact h10 (UInt8.toNat_inj.1 (by have hh : b.toNat = 10 := (by omega); simpa using hh))
                  have e13 : ((b.toNat : Int) == 13) = false := by
                    rw [beq_eq_false_iff_ne]
                    intro e
                    exact h13 (UInt8.toNat_inj.1 (by have hh : b.toNat = 13 := (by omega); simpa using hh))
                  have e34 : ((b.toNat : Int) == 34) = false := by
                    rw [beq_eq_false_iff_ne]
                    intro e
                    exact h34 (UInt8.toNat_inj.1 (by have hh : b.toNat = 34 := (by omega); simpa using hh))
                  have hrun : splitL T.data.toList = run (T.data.toList.drop (i + 1)) (rs.map (·.1)) C (cell ++ [b]) .plain (i + 1) := by rw [HSP.out]; simp [run, h44, h10, h13, h34]
                  have HRUN := Lib.hid hrun
                  clear hrun h44 h10 h13 h34
                  have hm1 : cell.length + 1 ≤ maxLen := by have := HCLm.out; unfold maxLen; omega
                  have hm2 : (cell.length + 1) * 1 ≤ 140737488355328 := by have := HCLm.out; omega
                  have HSW : Hid (∀ o : Obj, S + 1 ≤ (wr.alloc o).heap.size) := fun o => (by simp; omega)
                  have HOW : Hid (wr.ownsRow (S + 1) 5 1 (.slice bp cell.length bc) cell.length (Lib.byteCells cell)) := SH.out.o.cel
                  have HRW : Hid (∀ k, (Value.slice bp cell.length bc).ownBlock = some k → S + 1 ≤ k) := fun k hk => (World.ownsRow.lt HOW.out k hk).1
                  go_wp2_with (at_builtin; refine wpList_append_lies _ rfl _ _ 57 rfl (S + 1) 5 i5 (.int .u8 0) 1 1 Tryd.underlying57 hi5 b0 b1 b2 rfl (by decide) _ _ _ rfl (World.ownsRow.alloc HOW.out _) ⟨wr.heap.size, 0, none⟩ 1 1 [.int .u8 (b.toNat : Int)] rfl rfl (lit_cells wr _ _) (by intro u hu; simp at hu; subst hu; rfl) (by decide) hm1 hm2 (HSW.out _) (wr.heap.size + 1) (by simp) ?_)
                  intro g4 cap4 w4 hown4 hgr4 hwh4 hlt4
                  have hk := kept_at (w := wr) (S := S) (o := .cells #[.int .u8 (b.toNat : Int)] 5) hgr4 HRW.out SH.out.lt rfl
                  have k0 := (World.cell?_of_block (a := ⟨S, 0, none⟩) hk).trans SH.out.c0
                  have k1 := (World.cell?_of_block (a := ⟨S, 1, none⟩) hk).trans SH.out.c1
                  have k2 := (World.cell?_of_block (a := ⟨S, 2, none⟩) hk).trans SH.out.c2
                  have k3 := (World.cell?_of_block (a := ⟨S, 3, none⟩) hk).trans SH.out.c3
                  have kz : ∀ i, w4.frozen? ⟨S, i, none⟩ = false := fun i => (World.frozen?_of_block (a := ⟨S, i, none⟩) hk).trans (SH.out.z i)
                  have y2 := kz 2
                  have y3 := kz 3
                  have hO4 := SH.out.o.byte (b := b) (World.grownBy_alloc wr _ none) rfl hown4 hgr4
                  have SH4 := Lib.hid (Sh.cellAt k0 k1 k2 k3 kz hO4)
                  simp only [stN] at k3
                  clear hown4 hgr4 hwh4 hlt4 hk hO4 kz c0 c1 c2 c3 z0 z1 z2 z3 k0 k1 hm1 hm2
                  go_wp2
                  go_roundw
                  case rel => exact ⟨i + 1, op, rs, C, cell ++ [b], .plain, _, _, _, by omega, by go_num, rfl, hop, SH4.out.state 1, (by intro o h; rcases h with h | h <;> cases h), HRUN.out, by have := HC.out; omega, by have := HCL.out; simp; omega, by have := HRL.out; omega, (by intro e; cases e), (by intro e; cases e)⟩
                  case measure => simp [intOf]; omega
        | shut o =>
          simp only [stN] at c3
          by_cases h44 : b = 44
          · have h10 : b ≠ 10 := by rw [h44]; decide
            have h13 : b ≠ 13 := by rw [h44]; decide
            have h34 : b ≠ 34 := by rw [h44]; decide
            have e44 : ((b.toNat : Int) == 44) = true := by rw [h44]; rfl
            have e10 : ((b.toNat : Int) == 10) = false := by
              rw [beq_eq_false_iff_ne]
              intro e
              exact h10 (UInt8.toNat_inj.1 (by have hh : b.toNat = 10 := (by omega); simpa using hh))
            have e13 : ((b.toNat : Int) == 13) = false := by
              rw [beq_eq_false_iff_ne]
              intro e
              exact h13 (UInt8.toNat_inj.1 (by have hh : b.toNat = 13 := (by omega); simpa using hh))
            have e34 : ((b.toNat : Int) == 34) = false := by
              rw [beq_eq_false_iff_ne]
              intro e
              exact h34 (UInt8.toNat_inj.1 (by have hh : b.toNat = 34 := (by omega); simpa using hh))
            have hrun : splitL T.data.toList = run (T.data.toList.drop (i + 1)) (rs.map (·.1)) (C ++ [cell]) [] .start (i + 1) := by rw [HSP.out]; simp [run, h44]
            have HRUN := Lib.hid hrun
            clear hrun h44 h10 h13 h34
            go_wp2_with fail
            refine (endCell_any w wr S rs C cell _ vr vc _ SH.out HCm.out HCLm.out).mono ?_
            rintro e w2 ⟨rfl, vc2, hsh2⟩
            have SH2 := Lib.hid hsh2
            have HCm2 : Hid ((C ++ [cell]).length ≤ 100000) := by have := HC.out; show _ ≤ _; simp; omega
            clear hsh2 c0 c1 c2 c3 z0 z1 z2 z3
            by_cases hlast : i + 1 = T.size
            · have dl : ((i : Int) + 1 == (T.size : Int)) = true := by rw [← hlast]; simp
              have hrun2 : splitL T.data.toList = run (T.data.toList.drop (i + 1)) ((rs.map (·.1)) ++ [C ++ [cell] ++ [[]]]) [] [] .start (i + 1) := by
                rw [HRUN.out, List.drop_eq_nil_of_le (by rw [HSZ.out]; omega)]
                simp [run]
              have HRUN2 := Lib.hid hrun2
              clear hrun2
              go_wp2_with fail
              refine (endRow_any w w2 S rs (C ++ [cell]) [] _ vr vc2 _ SH2.out HCm2.out (by simp) HRLm.out).mono ?_
              rintro e w3 ⟨rfl, vr3, vc3, hsh3⟩
              have SH3 := Lib.hid hsh3
              clear hsh3
              go_wp2
              go_roundw
              case rel => exact ⟨i + 1, op, rs ++ [(C ++ [cell] ++ [[]], vc3)], [], [], .start, _, _, _, by omega, by go_num, rfl, hop, SH3.out, (by intro o h; rcases h with h | h <;> cases h), by rw [HRUN2.out, List.map_append]; rfl, by simp, by simp, by have := HRL.out; simp; omega, fun _ => rfl, fun _ _ => rfl⟩
              case measure => simp [intOf]; omega
            · have dl : ((i : Int) + 1 == (T.size : Int)) = false := by
                rw [beq_eq_false_iff_ne]
                omega
              go_wp2
              go_roundw
              case rel => exact ⟨i + 1, op, rs, C ++ [cell], [], .start, _, _, _, by omega, by go_num, rfl, hop, SH2.out, (by intro o h; rcases h with h | h <;> cases h), HRUN.out, by have := HC.out; simp; omega, by simp, by have := HRL.out; omega, fun _ => rfl, fun _ hc => absurd hc hlast⟩
              case measure => simp [intOf]; omega
          · by_cases h10 : b = 10
            · have h13 : b ≠ 13 := by rw [h10]; decide
              have h34 : b ≠ 34 := by rw [h10]; decide
              have e44 : ((b.toNat : Int) == 44) = false := by
                rw [beq_eq_false_iff_ne]
                intro e
                exact h44 (UInt8.toNat_inj.1 (by have hh : b.toNat = 44 := (by omega); simpa using hh))
              have e10 : ((b.toNat : Int) == 10) = true := by rw [h10]; rfl
              have e13 : ((b.toNat : Int) == 13) = false := by
                rw [beq_eq_false_iff_ne]
                intro e
                exact h13 (UInt8.toNat_inj.1 (by have hh : b.toNat = 13 := (by omega); simpa using hh))
              have e34 : ((b.toNat : Int) == 34) = false := by
                rw [beq_eq_false_iff_ne]
                intro e
                exact h34 (UInt8.toNat_inj.1 (by have hh : b.toNat = 34 := (by omega); simpa using hh))
              have hrun : splitL T.data.toList = run (T.data.toList.drop (i + 1)) ((rs.map (·.1)) ++ [C ++ [cell]]) [] [] .start (i + 1) := by rw [HSP.out]; simp [run, h10]
              have HRUN := Lib.hid hrun
              clear hrun h44 h10 h13 h34
              go_wp2_with fail
              refine (endRow_any w wr S rs C cell _ vr vc _ SH.out HCm.out HCLm.out HRLm.out).mono ?_
              rintro e w3 ⟨rfl, vr3, vc3, hsh3⟩
              have SH3 := Lib.hid hsh3
              clear hsh3 c0 c1 c2 c3 z0 z1 z2 z3
              go_wp2
              go_roundw
              case rel => exact ⟨i + 1, op, rs ++ [(C ++ [cell], vc3)], [], [], .start, _, _, _, by omega, by go_num, rfl, hop, SH3.out, (by intro o h; rcases h with h | h <;> cases h), by rw [HRUN.out, List.map_append]; rfl, by simp, by simp, by have := HRL.out; simp; omega, fun _ => rfl, fun _ _ => rfl⟩
              case measure => simp [intOf]; omega
            · by_cases h13 : b = 13
              · have h34 : b ≠ 34 := by rw [h13]; decide
                have e44 : ((b.toNat : Int) == 44) = false := by
                  rw [beq_eq_false_iff_ne]
                  intro e
                  exact h44 (UInt8.toNat_inj.1 (by have hh : b.toNat = 44 := (by omega); simpa using hh))
                have e10 : ((b.toNat : Int) == 10) = false := by
                  rw [beq_eq_false_iff_ne]
                  intro e
                  exact h10 (UInt8.toNat_inj.1 (by have hh : b.toNat = 10 := (by omega); simpa using hh))
                have e13 : ((b.toNat : Int) == 13) = true := by rw [h13]; rfl
                have e34 : ((b.toNat : Int) == 34) = false := by
                  rw [beq_eq_false_iff_ne]
                  intro e
                  exact h34 (UInt8.toNat_inj.1 (by have hh : b.toNat = 34 := (by omega); simpa using hh))
                by_cases hlast : i + 1 = T.size
                · have dl : ((i : Int) + 1 == (T.size : Int)) = true := by rw [← hlast]; simp
                  have hnil : T.data.toList.drop (i + 1) = [] := List.drop_eq_nil_of_le (by rw [HSZ.out]; omega)
                  have hbad : splitL T.data.toList = .bad 41 i := by rw [HSP.out]; rw [hnil]; simp [run, h13]
                  have HBAD := Lib.hid hbad
                  clear hbad hnil h44 h10 h13 h34
                  go_wp2
                  first | go_ret3 | skip
                  refine ⟨SH.out.o.g, ?_⟩
                  rw [HLN.out, HBAD.out]
                  exact ⟨rfl, by decide⟩
                · have dl : ((i : Int) + 1 == (T.size : Int)) = false := by
                    rw [beq_eq_false_iff_ne]
                    omega
                  have hi2 : i + 1 < T.size := by omega
                  obtain ⟨b2_, hb2⟩ : ∃ b2_, T[i + 1]'hi2 = b2_ := ⟨_, rfl⟩
                  have hd2 := drop_at (l := T.data.toList) (i := i + 1) (b := b2_) (by rw [Lib.data_getElem? T (i + 1) hi2, hb2])
                  by_cases hl2 : b2_ = 10
                  · have dn : ((b2_.toNat : Int) != 10) = false := by rw [hl2]; rfl
                    have hrun : splitL T.data.toList = run (T.data.toList.drop (i + 1)) (rs.map (·.1)) C cell (.shut o) (i + 1) := by rw [HSP.out, hd2, hl2]; simp [run, h13]
                    have HRUN := Lib.hid hrun
                    clear hrun hd2 hl2 h44 h10 h13 h34
                    go_wp2
                    go_roundw
                    case rel => exact ⟨i + 1, op, rs, C, cell, (.shut o), _, _, _, by omega, by go_num, rfl, hop, SH.out, (by intro o' h; exact HOP.out o' h), HRUN.out, by have := HC.out; omega, by have := HCL.out; omega, by have := HRL.out; omega, HST.out, (by intro e; cases e)⟩
                    case measure => simp [intOf]; omega
                  · have dn : ((b2_.toNat : Int) != 10) = true := by
                      rw [bne_iff_ne]
                      intro e
                      exact hl2 (UInt8.toNat_inj.1 (by have hh : b2_.toNat = 10 := (by omega); simpa using hh))
                    have hbad : splitL T.data.toList = .bad 41 i := by rw [HSP.out]; rw [hd2]; simp [run, h13, hl2]
                    have HBAD := Lib.hid hbad
                    clear hbad hd2 hl2 h44 h10 h13 h34
                    go_wp2
                    first | go_ret3 | skip
                    refine ⟨SH.out.o.g, ?_⟩
                    rw [HLN.out, HBAD.out]
                    exact ⟨rfl, by decide⟩
              · by_cases h34 : b = 34
                · clear h44 h10 h13
                  have h44 : b ≠ 44 := by rw [h34]; decide
                  have h10 : b ≠ 10 := by rw [h34]; decide
                  have h13 : b ≠ 13 := by rw [h34]; decide
                  have e44 : ((b.toNat : Int) == 44) = false := by
                    rw [beq_eq_false_iff_ne]
                    intro e
                    exact h44 (UInt8.toNat_inj.1 (by have hh : b.toNat = 44 := (by omega); simpa using hh))
                  have e10 : ((b.toNat : Int) == 10) = false := by
                    rw [beq_eq_false_iff_ne]
                    intro e
                    exact h10 (UInt8.toNat_inj.1 (by have hh : b.toNat = 10 := (by omega); simpa using hh))
                  have e13 : ((b.toNat : Int) == 13) = false := by
                    rw [beq_eq_false_iff_ne]
                    intro e
                    exact h13 (UInt8.toNat_inj.1 (by have hh : b.toNat = 13 := (by omega); simpa using hh))
                  have e34 : ((b.toNat : Int) == 34) = true := by rw [h34]; rfl
                  have hrun : splitL T.data.toList = run (T.data.toList.drop (i + 1)) (rs.map (·.1)) C (cell ++ [34]) (.quoted o) (i + 1) := by rw [HSP.out]; simp [run, h34]
                  have HRUN := Lib.hid hrun
                  have HOPN : Hid (opened (.quoted o) op) := by
                    intro o' h
                    rcases h with h | h
                    · exact HOP.out o' (.inr (by cases h; rfl))
                    · cases h
                  clear hrun h44 h10 h13 h34
                  have hm1 : cell.length + 1 ≤ maxLen := by have := HCLm.out; unfold maxLen; omega
                  have hm2 : (cell.length + 1) * 1 ≤ 140737488355328 := by have := HCLm.out; omega
                  have HSW : Hid (∀ o : Obj, S + 1 ≤ (wr.alloc o).heap.size) := fun o => (by simp; omega)
                  have HOW : Hid (wr.ownsRow (S + 1) 5 1 (.slice bp cell.length bc) cell.length (Lib.byteCells cell)) := SH.out.o.cel
                  have HRW : Hid (∀ k, (Value.slice bp cell.length bc).ownBlock = some k → S + 1 ≤ k) := fun k hk => (World.ownsRow.lt HOW.out k hk).1
                  go_wp2_with (at_builtin; refine wpList_append_lies _ rfl _ _ 57 rfl (S + 1) 5 i5 (.int .u8 0) 1 1 Tryd.underlying57 hi5 b0 b1 b2 rfl (by decide) _ _ _ rfl (World.ownsRow.alloc HOW.out _) ⟨wr.heap.size, 0, none⟩ 1 1 [.int .u8 34] rfl rfl (lit_cells wr _ _) (by intro u hu; simp at hu; subst hu; rfl) (by decide) hm1 hm2 (HSW.out _) (wr.heap.size + 1) (by simp) ?_)
                  intro g4 cap4 w4 hown4 hgr4 hwh4 hlt4
                  have hk := kept_at (w := wr) (S := S) (o := .cells #[.int .u8 34] 5) hgr4 HRW.out SH.out.lt rfl
                  have k0 := (World.cell?_of_block (a := ⟨S, 0, none⟩) hk).trans SH.out.c0
                  have k1 := (World.cell?_of_block (a := ⟨S, 1, none⟩) hk).trans SH.out.c1
                  have k2 := (World.cell?_of_block (a := ⟨S, 2, none⟩) hk).trans SH.out.c2
                  have k3 := (World.cell?_of_block (a := ⟨S, 3, none⟩) hk).trans SH.out.c3
                  have kz : ∀ i, w4.frozen? ⟨S, i, none⟩ = false := fun i => (World.frozen?_of_block (a := ⟨S, i, none⟩) hk).trans (SH.out.z i)
                  have y2 := kz 2
                  have y3 := kz 3
                  have hO4 := SH.out.o.byte (b := 34) (World.grownBy_alloc wr _ none) rfl hown4 hgr4
                  have SH4 := Lib.hid (Sh.cellAt k0 k1 k2 k3 kz hO4)
                  simp only [stN] at k3
                  clear hown4 hgr4 hwh4 hlt4 hk hO4 kz c0 c1 c2 c3 z0 z1 z2 z3 k0 k1 hm1 hm2
                  go_wp2
                  go_roundw
                  case rel => exact ⟨i + 1, op, rs, C, cell ++ [34], (.quoted o), _, _, _, by omega, by go_num, rfl, hop, SH4.out.state 2, HOPN.out, HRUN.out, by have := HC.out; omega, by have := HCL.out; simp; omega, by have := HRL.out; omega, (by intro e; cases e), (by intro e; cases e)⟩
                  case measure => simp [intOf]; omega
                · have e44 : ((b.toNat : Int) == 44) = false := by
                    rw [beq_eq_false_iff_ne]
                    intro e
                    exact h44 (UInt8.toNat_inj.1 (by have hh : b.toNat = 44 := (by omega); simpa using hh))
                  have e10 : ((b.toNat : Int) == 10) = false := by
                    rw [beq_eq_false_iff_ne]
                    intro e
                    exact h10 (UInt8.toNat_inj.1 (by have hh : b.toNat = 10 := (by omega); simpa using hh))
                  have e13 : ((b.toNat : Int) == 13) = false := by
                    rw [beq_eq_false_iff_ne]
                    intro e
                    exact h13 (UInt8.toNat_inj.1 (by have hh : b.toNat = 13 := (by omega); simpa using hh))
                  have e34 : ((b.toNat : Int) == 34) = false := by
                    rw [beq_eq_false_iff_ne]
                    intro e
                    exact h34 (UInt8.toNat_inj.1 (by have hh : b.toNat = 34 := (by omega); simpa using hh))
                  have hbad : splitL T.data.toList = .bad 40 i := by rw [HSP.out]; simp [run, h44, h10, h13, h34]
                  have HBAD := Lib.hid hbad
                  clear hbad h44 h10 h13 h34
                  go_wp2
                  first | go_ret3 | skip
                  refine ⟨SH.out.o.g, ?_⟩
                  rw [HLN.out, HBAD.out]
                  exact ⟨rfl, by decide⟩
      · have hie : i = T.size := by omega
        have hnil : T.data.toList.drop i = [] := List.drop_eq_nil_of_le (by rw [HSZ.out]; omega)
        rw [hnil] at HSP
        clear hnil
        have hCm : C.length ≤ 100000 := by have := HC.out; omega
        have hclm : cell.length ≤ 100000 := by have := HCL.out; omega
        have hrlm : rs.length ≤ 100000 := by have := HRL.out; omega
        have HCm := Lib.hid hCm
        have HCLm := Lib.hid hclm
        have HRLm := Lib.hid hrlm
        clear hCm hclm hrlm
        have hbs : S = w.heap.size := HSE.out
        have HBS := Lib.hid hbs
        clear hbs
        cases st with
        | quoted o =>
          simp only [stN] at c3
          have hbad : splitL T.data.toList = .bad 40 op := by
            rw [HSP.out]
            simp only [run]
            rw [HOP.out o (.inl rfl)]
          have HBAD := Lib.hid hbad
          clear hbad
          go_wp2
          first | go_ret3 | skip
          refine ⟨by have := SH.out.o.g; exact this, ?_⟩
          rw [HLN.out, HBAD.out]
          exact ⟨rfl, by decide⟩
        | start =>
          simp only [stN] at c3
          have hce : C = [] := HCE.out rfl hie
          obtain ⟨rp, rc, rfl⟩ := own_slice SH.out.o.rows.own
          have hout : splitL T.data.toList = .ok (rs.map (·.1)) := by
            rw [HSP.out, hce]
            simp [run]
          have HOUT := Lib.hid hout
          clear hout hce
          go_wp2
          first | go_ret3 | skip
          refine ⟨by have := SH.out.o.g; exact this, ?_⟩
          rw [HLN.out, HOUT.out]
          exact ⟨rs, rp, rc, rfl, by simp, SH.out.o.rows.base (B' := w.heap.size) (by have := HBS.out; omega)⟩
        | plain =>
          simp only [stN] at c3
          have hout : splitL T.data.toList = .ok (rs.map (·.1) ++ [C ++ [cell]]) := by
            rw [HSP.out]
            rfl
          have HOUT := Lib.hid hout
          clear hout
          go_wp2_with fail
          refine (endRow_any w wr S rs C cell _ vr vc _ SH.out HCm.out HCLm.out HRLm.out).mono ?_
          rintro e w3 ⟨rfl, vr3, vc3, hsh3⟩
          obtain ⟨rp, rc, rfl⟩ := own_slice hsh3.o.rows.own
          have SH3 := Lib.hid hsh3
          have k0 := hsh3.c0
          clear hsh3 c0 c1 c2 c3 z0 z1 z2 z3
          go_wp2
          first | go_ret3 | skip
          refine ⟨by have := SH3.out.o.g; exact this, ?_⟩
          rw [HLN.out, HOUT.out]
          refine ⟨rs ++ [(C ++ [cell], vc3)], rp, rc, by simp, ?_, ?_⟩
          · simp
          · simpa using SH3.out.o.rows.base (B' := w.heap.size) (by have := HBS.out; omega)
        | shut o =>
          simp only [stN] at c3
          have hout : splitL T.data.toList = .ok (rs.map (·.1) ++ [C ++ [cell]]) := by
            rw [HSP.out]
            rfl
          have HOUT := Lib.hid hout
          clear hout
          go_wp2_with fail
          refine (endRow_any w wr S rs C cell _ vr vc _ SH.out HCm.out HCLm.out HRLm.out).mono ?_
          rintro e w3 ⟨rfl, vr3, vc3, hsh3⟩
          obtain ⟨rp, rc, rfl⟩ := own_slice hsh3.o.rows.own
          have SH3 := Lib.hid hsh3
          have k0 := hsh3.c0
          clear hsh3 c0 c1 c2 c3 z0 z1 z2 z3
          go_wp2
          first | go_ret3 | skip
          refine ⟨by have := SH3.out.o.g; exact this, ?_⟩
          rw [HLN.out, HOUT.out]
          refine ⟨rs ++ [(C ++ [cell], vc3)], rp, rc, by simp, ?_, ?_⟩
          · simp
          · simpa using SH3.out.o.rows.base (B' := w.heap.size) (by have := HBS.out; omega)
end Go.Proofs.YtkficmbkoinjjaaDoor
