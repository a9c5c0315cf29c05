/- Package csv's reader: row. -/
import Derived.WalkMore
import Derived.Deep.LoopGhost
import Derived.Test.YtkficmbkoinjjaaGreatDoorO1
import Derived.Test.YtkficmbkoinjjaaGreatDoorP2
namespace Go.Proofs.YtkficmbkoinjjaaGreatDoor
open Go Go.RowKit
set_option maxHeartbeats 8000000
set_option linter.unusedVariables false
set_option linter.unusedSimpArgs false
abbrev sQ : ByteArray := ⟨#[34]⟩
abbrev sC : ByteArray := ⟨#[44]⟩
theorem head_there (T : ByteArray) (a : Nat) (c : UInt8) : (there T a ⟨#[c]⟩ = true ↔ (T.data.toList.drop a).head? = some c) := by
  rw [there_one]
  simp
theorem Aft.app {w w1 w2 : World} {R : Nat} {T : ByteArray} {a : Nat} {f : Int} {row : Option Nat} (h : Aft w w1 R T a f) (hg : w1.grownBy w2 row) (hrow : ∀ k, row = some k → w.heap.size ≤ k) (hR : R < w.heap.size) : Aft w w2 R T a f := by
  have hRb : w2.heap[R]? = w1.heap[R]? := hg.block R h.r.lt (fun e => by have := hrow R e.symm; omega)
  refine ⟨⟨hg.os.trans h.g.os, hg.tape.trans h.g.tape, hg.output.trans h.g.output, Nat.le_trans h.g.size hg.size, fun i hi hr => (hg.block i (Nat.lt_of_lt_of_le hi h.g.size) (fun e => by have := hrow i e.symm; omega)).trans (h.g.block i hi hr)⟩, ?_⟩
  exact ⟨(World.cell?_of_block (a := ⟨R, 0, none⟩) hRb).trans h.r.c0, (World.cell?_of_block (a := ⟨R, 1, none⟩) hRb).trans h.r.c1, (World.cell?_of_block (a := ⟨R, 2, none⟩) hRb).trans h.r.c2, (World.frozen?_of_block (a := ⟨R, 1, none⟩) hRb).trans h.r.z1, (World.frozen?_of_block (a := ⟨R, 2, none⟩) hRb).trans h.r.z2⟩
/-- what a row's walk holds: the row so far, the reader -/
structure Row (w wr : World) (R : Nat) (T : ByteArray) (v : Value) (C : List Cell) (a : Nat) : Prop where
  own : OutS wr w.heap.size v C
  aft : Aft w wr R T a 0
  le : a ≤ T.size
def RowPost (w : World) (R : Nat) (T : ByteArray) (a0 : Nat) (e : Ending) (w' : World) : Prop := ∃ (v : Value) (C : List Cell) (a : Nat) (f : Int), e = .returned v ∧ OutS w' w.heap.size v C ∧ Aft w w' R T a f ∧ a ≤ T.size ∧ (f = 0 → a0 < a) ∧ RowIs T.data.toList a0 C a f
set_option maxRecDepth 100000 in
theorem row_any (R : Nat) (T : ByteArray) (a0 : Nat) (w : World) (h : Rd w R T a0 0) (ha : a0 < T.size) (hT : T.size ≤ 65536) :
    Calls Tryz.prog 26 #[.pointer (some ⟨R, 0, none⟩)] w (RowPost w R T a0) := by
  have HSZ : Hid (T.data.toList.length = T.size) := (Lib.size_eq T).symm
  have HRL := Lib.hid h.lt
  have HR := Lib.hid h
  have HA0 := Lib.hid ha
  have HSK : Hid (∀ s wx a, a ≤ T.size → Rd wx R T a 0 → Calls Tryz.prog 48 #[.pointer (some ⟨R, 0, none⟩), .string s] wx fun e w' => e = .returned (.bool (there T a s)) ∧ Aft wx w' R T (if there T a s = true then a + s.size else a) 0) := fun s wx a h1 h2 => skip_any R T a 0 s wx h2 h1 (by omega)
  have HPL : Hid (∀ wx a, a ≤ T.size → Rd wx R T a 0 → Calls Tryz.prog 49 #[.pointer (some ⟨R, 0, none⟩)] wx fun e w' => e = .returned (.string ⟨(plainL T a).toArray⟩) ∧ Aft wx w' R T (a + plen (T.data.toList.drop a)) 0) := fun wx a h1 h2 => plain_any R T a 0 wx h2 h1 (by omega)
  have HEN : Hid (∀ wx a, a ≤ T.size → Rd wx R T a 0 → Calls Tryz.prog 50 #[.pointer (some ⟨R, 0, none⟩)] wx fun e w' => e = .returned (.tuple #[]) ∧ Aft wx w' R T (a + (endF (T.data.toList.drop a)).2) (endF (T.data.toList.drop a)).1) := fun wx a h1 h2 => end_any R T a wx h2 h1 (by omega)
  obtain ⟨i5, hi5, b0, b1, b2⟩ := info_parts infoByte
  obtain ⟨i9, hi9, s0, s1, s2⟩ := info_parts infoStr
  clear h ha
  go_enter Tryz.func26, Tryz.ntmps26
  go_wp2
  go_step3
  go_wp2
  go_step3
  go_wp2
  go_loopg [3, 4] (T.size - a0 + 1) (fun g rv mv wr => ∃ (C : List Cell) (a : Nat), a0 ≤ a ∧ Row w wr R T rv C a ∧ C.length ≤ a + 1 ∧ ((mv = .bool true ∧ (C = [] → a = a0) ∧ C.length ≤ a ∧ RowS T.data.toList a0 C a ∧ T.size - a + 1 = g) ∨ (mv = .bool false ∧ C ≠ [] ∧ RowE T.data.toList a0 C a ∧ g = 0)))
  case atStart => exact ⟨[], a0, Nat.le_refl _, ⟨OutS.nil _ _, Aft.refl HR.out, Nat.le_of_lt HA0.out⟩, by simp, .inl ⟨rfl, fun _ => rfl, by simp, RowS.begin _ _, rfl⟩⟩
  case round =>
    obtain ⟨C, a, h0a, hrow, hCl, hcase⟩ := hrel
    have H0A := Lib.hid h0a
    rcases hcase with ⟨rfl, hC0, hCa, hS, hg⟩ | ⟨rfl, hC, hE, hg⟩
    · obtain ⟨rp, rc, rfl⟩ := own_slice hrow.own
      have HROW := Lib.hid hrow
      have HC0 := Lib.hid hC0
      have HCA := Lib.hid hCa
      have HS := Lib.hid hS
      obtain ⟨c0, c1, c2, z1, z2⟩ := hrow.aft.r
      have hale := hrow.le
      clear hrow hC0 hCa hS h0a hCl
      cases hq : there T a sQ with
      | false =>
        have hne : (T.data.toList.drop a).head? ≠ some 34 := fun e => by rw [(head_there T a 34).2 e] at hq; cases hq
        have hnn : T.data.toList.drop a ≠ [] ∨ C ≠ [] := by
          by_cases hC : C = []
          · left
            intro e
            have h1 := congrArg List.length e
            rw [List.length_drop, HSZ.out] at h1
            have h2 := HC0.out hC
            have h3 := HA0.out
            simp at h1
            omega
          · exact .inr hC
        have HCL := Lib.hid (plain_cell HS.out hnn hne)
        have HQ := Lib.hid hq
        clear hne hnn hq
        go_wp2_with fail
        refine (HSK.out sQ _ a HROW.out.le HROW.out.aft.r).mono ?_
        rintro e w2 ⟨rfl, hA2⟩
        rw [HQ.out] at hA2
        have HROW2 : Hid (Row w w2 R T (.slice rp C.length rc) C a) := ⟨own_aside HROW.out.own hA2.g HRL.out, HROW.out.aft.trans hA2, HROW.out.le⟩
        clear hA2
        rw [HQ.out]
        go_wp2_with fail
        refine (HPL.out _ a HROW2.out.le HROW2.out.aft.r).mono ?_
        rintro e w3 ⟨rfl, hA3⟩
        have hple : a + plen (T.data.toList.drop a) ≤ T.size := by
          have h1 := plen_le (T.data.toList.drop a)
          rw [List.length_drop, HSZ.out] at h1
          have := HROW.out.le
          omega
        have HROW3 : Hid (Row w w3 R T (.slice rp C.length rc) C (a + plen (T.data.toList.drop a))) := ⟨own_aside HROW2.out.own hA3.g HRL.out, HROW2.out.aft.trans hA3, hple⟩
        have HPE : Hid (plainL T a = (T.data.toList.drop a).take (plen (T.data.toList.drop a))) := rfl
        obtain ⟨pc, hpc⟩ : ∃ pc, pc = plainL T a := ⟨_, rfl⟩
        rw [← hpc] at HPE ⊢
        obtain ⟨a1, ha1⟩ : ∃ a1, a1 = a + plen (T.data.toList.drop a) := ⟨_, rfl⟩
        rw [← ha1] at HROW3 HCL
        rw [← show pc = _ from HPE.out] at HCL
        have HA1 : Hid (a ≤ a1) := by show _ ≤ _; omega
        have hm1 : C.length + 1 ≤ maxLen := by have := HCA.out; have := HROW.out.le; unfold maxLen; omega
        have hm2 : (C.length + 1) * 16 ≤ 140737488355328 := by have := HCA.out; have := HROW.out.le; omega
        have HSW3 : Hid (w.heap.size ≤ w3.heap.size) := HROW3.out.aft.g.size
        have HSWA : Hid (∀ o : Obj, w.heap.size ≤ (w3.alloc o).heap.size) := fun o => (by have := HSW3.out; simp; omega)
        clear hA3 hple hpc ha1
        obtain ⟨cl, hcl⟩ : ∃ cl, cl = C.length := ⟨_, rfl⟩
        have HCLN := Lib.hid hcl
        rw [← hcl] at hm1 hm2 ⊢
        have OW3 : Hid (w3.ownsRow w.heap.size 9 1 (.slice rp cl rc) cl (strs C)) := by have := HROW3.out.own; unfold OutS at this; rw [← hcl] at this; exact this
        clear hcl
        go_wp2_with (at_builtin; refine wpList_append_lies _ rfl _ _ 22 rfl w.heap.size 9 i9 (.string ⟨#[]⟩) 1 16 Tryz.underlying22 hi9 s0 s1 s2 rfl (by decide) _ _ _ rfl (World.ownsRow.alloc OW3.out _) ⟨w3.heap.size, 0, none⟩ 1 1 [.string ⟨pc.toArray⟩] rfl rfl (lit_cells w3 _ _) (by intro u hu; simp at hu; subst hu; rfl) (by decide) hm1 hm2 (HSWA.out _) (w3.heap.size + 1) (by simp) ?_)
        intro g4 cap4 w4 hown4 hgr4 hwh4 hlt4
        have HROWN : Hid (Row w w4 R T (.slice (some ⟨g4, 0, none⟩) (cl + 1) cap4) (C ++ [pc]) a1) := by
          have hal : Below w3.heap.size w3 (w3.alloc (.cells #[.string ⟨pc.toArray⟩] 9)) := (Below.refl _ _).alloc (Nat.le_refl _) _
          have hA := HROW3.out.aft.below hal
          refine ⟨?_, hA.app hgr4 (fun k hk => (World.ownsRow.lt OW3.out k hk).1) HRL.out, HROW3.out.le⟩
          show World.ownsRow _ _ _ _ _ _ _
          rw [← strs_snoc, show (C ++ [pc]).length = cl + 1 by rw [List.length_append, ← show cl = _ from HCLN.out]; rfl]
          exact hown4
        have HLEN : Hid ((C ++ [pc]).length ≤ a1 + 1) := by have := HCA.out; have := HA1.out; show _ ≤ _; rw [List.length_append]; simp; omega
        clear hown4 hgr4 hwh4 hlt4 hm1 hm2
        have HCM := Lib.hid (HSK.out sC)
        cases hcm : there T a1 sC with
        | false =>
          have hne : (T.data.toList.drop (a1)).head? ≠ some 44 := fun e => by rw [(head_there T (a1) 44).2 e] at hcm; cases hcm
          have HEE := Lib.hid (HCL.out.2 hne)
          have HCMF := Lib.hid hcm
          clear hne hcm
          go_wp2_with fail
          refine (HSK.out sC _ (a1) HROWN.out.le HROWN.out.aft.r).mono ?_
          rintro e w9 ⟨rfl, hA9⟩
          rw [HCMF.out] at hA9
          have HROW9 : Hid (Row w w9 R T (.slice (some ⟨g4, 0, none⟩) (cl + 1) cap4) (C ++ [pc]) (a1)) := ⟨own_aside HROWN.out.own hA9.g HRL.out, HROWN.out.aft.trans hA9, HROWN.out.le⟩
          clear hA9
          rw [HCMF.out]
          go_wp2
          go_roundg 0
          case measure => omega
          case rel => exact ⟨(C ++ [pc]), a1, by have := H0A.out; have := HA1.out; omega, HROW9.out, HLEN.out, .inr ⟨rfl, by simp, HEE.out, rfl⟩⟩
        | true =>
          have he : (T.data.toList.drop (a1)).head? = some 44 := (head_there T (a1) 44).1 hcm
          have hfit := there_fits (s := sC) HROWN.out.le hcm
          have HFIT : Hid (a1 + 1 ≤ T.size) := hfit
          have HSS := Lib.hid (HCL.out.1 he)
          have HCMF := Lib.hid hcm
          clear he hcm hfit
          go_wp2_with fail
          refine (HSK.out sC _ (a1) HROWN.out.le HROWN.out.aft.r).mono ?_
          rintro e w9 ⟨rfl, hA9⟩
          rw [HCMF.out] at hA9
          have HROW9 : Hid (Row w w9 R T (.slice (some ⟨g4, 0, none⟩) (cl + 1) cap4) (C ++ [pc]) (a1 + 1)) := ⟨own_aside HROWN.out.own hA9.g HRL.out, HROWN.out.aft.trans hA9, HFIT.out⟩
          clear hA9
          rw [HCMF.out]
          go_wp2
          go_roundg (T.size - (a1 + 1) + 1)
          case measure => have := HFIT.out; have := H0A.out; have := HA1.out; omega
          case rel => exact ⟨(C ++ [pc]), a1 + 1, by have := H0A.out; have := HA1.out; omega, HROW9.out, by have := HLEN.out; omega, .inl ⟨rfl, fun e => absurd e (by simp), HLEN.out, HSS.out, rfl⟩⟩
      | true =>
        have h34 : (T.data.toList.drop a).head? = some 34 := (head_there T a 34).1 hq
        have hfit := there_fits (s := sQ) hale hq
        have HFIT0 : Hid (a + 1 ≤ T.size) := hfit
        have HX0 := Lib.hid (open_quoted HS.out h34)
        have H34 := Lib.hid h34
        have HQ := Lib.hid hq
        clear h34 hq hfit
        go_wp2_with fail
        refine (HSK.out sQ _ a HROW.out.le HROW.out.aft.r).mono ?_
        rintro e w2 ⟨rfl, hA2⟩
        rw [HQ.out] at hA2
        have HROW2 : Hid (Row w w2 R T (.slice rp C.length rc) C (a + 1)) := ⟨own_aside HROW.out.own hA2.g HRL.out, HROW.out.aft.trans hA2, HFIT0.out⟩
        clear hA2 c0 c1 c2 z1 z2
        rw [HQ.out]
        obtain ⟨wo, rfl⟩ : ∃ wo : World, wo = wr := ⟨_, rfl⟩
        obtain ⟨go_, rfl⟩ : ∃ go_ : Nat, go_ = gk := ⟨_, rfl⟩
        go_wp2
        go_loopg [3, 6] (T.size - (a + 1)) (fun g rv cv wi => ∃ (q : Cell) (a2 : Nat), rv = .slice rp C.length rc ∧ a + 1 ≤ a2 ∧ Row w wi R T (.slice rp C.length rc) C a2 ∧ Out wi w.heap.size cv q ∧ q.length ≤ a2 ∧ RowX T.data.toList a0 C q (.quoted a) a2 ∧ T.size - a2 = g)
        case atStart => exact ⟨[], a + 1, rfl, Nat.le_refl _, HROW2.out, Out.nil _ _, by simp, HX0.out, rfl⟩
        case round =>
          obtain ⟨q, a2, rfl, ha2, hrow, hown, hql, hx, hg2⟩ := hrel
          obtain ⟨qp, qc, rfl⟩ := own_slice hown
          have HROWI := Lib.hid hrow
          have HOWN := Lib.hid hown
          have HX := Lib.hid hx
          have HQL := Lib.hid hql
          have HA2 := Lib.hid ha2
          have h2le := hrow.le
          obtain ⟨c0, c1, c2, z1, z2⟩ := hrow.aft.r
          clear hrow hown hx hql
          by_cases hend : a2 = T.size
          · have dE : ((a2 : Int) == (T.size : Int)) = true := by rw [hend]; simp
            have hdr : T.data.toList.drop a2 = [] := List.drop_eq_nil_of_le (by rw [HSZ.out]; omega)
            have HE := Lib.hid (quoted_open HX.out hdr H34.out C)
            have HC : Hid (C ≠ [] ∨ (endF (T.data.toList.drop a)).1 ≠ 0) := by
              right
              cases hm : T.data.toList.drop a with
              | nil => have := H34.out; rw [hm] at this; cases this
              | cons b t =>
                have := H34.out
                rw [hm] at this
                simp only [List.head?_cons, Option.some.injEq] at this
                subst this
                simp [endF]
            clear hend hdr
            go_wp2
            go_region
            go_wp2_with fail
            have hA1 : Aft w ((wr.setCell ⟨R, 1, none⟩ (.int .i64 a)).drew) R T a 0 := (HROWI.out.aft.at a).drew
            have hO1 : OutS ((wr.setCell ⟨R, 1, none⟩ (.int .i64 a)).drew) w.heap.size (.slice rp C.length rc) C := own_aside HROWI.out.own ⟨rfl, rfl, rfl, by simp [World.drew], fun k _ hk => heap_setCell_other wr ⟨R, 1, none⟩ k _ (fun e => hk (by simp [e]))⟩ HRL.out
            have HROW : Hid (Row w ((wr.setCell ⟨R, 1, none⟩ (.int .i64 a)).drew) R T (.slice rp C.length rc) C a) := ⟨hO1, hA1, hale⟩
            clear hA1 hO1
            go_wp2_with fail
            have hA1 := HROW.out.aft
            refine (HEN.out _ a HROW.out.le hA1.r).mono ?_
            rintro e w2 ⟨rfl, hA2⟩
            have HA2 := Lib.hid (hA1.trans hA2)
            have HO2 := Lib.hid (own_aside HROW.out.own hA2.g HRL.out)
            clear hA1 hA2
            go_wp2
            try rw [Exit.noGoto_ret]
            go_ret
            refine ⟨_, C, _, _, rfl, HO2.out, HA2.out, by have := endF_le (l := T.data.toList) (a := a) (by rw [HSZ.out]; exact HROW.out.le); rw [HSZ.out] at this; exact this, fun hf => ?_, row_done HE.out HC.out⟩
            have h1 := H0A.out
            by_cases hEq : a = a0
            · have h2 : T.data.toList.drop a ≠ [] := by
                intro e
                have := congrArg List.length e
                rw [List.length_drop, HSZ.out] at this
                have := HA0.out
                simp at *
                omega
              have := endF_pos h2 hf
              omega
            · omega
          · have hlt : a2 < T.size := by omega
            have dE : ((a2 : Int) == (T.size : Int)) = false := by simp; omega
            have hl2 : a2 < T.data.toList.length := by rw [HSZ.out]; exact hlt
            cases hq2 : there T a2 sQ with
            | false =>
              obtain ⟨b, hb⟩ : ∃ b, T[a2]'hlt = b := ⟨_, rfl⟩
              have hhd : (T.data.toList.drop a2).head? = some b := by
                rw [List.head?_drop, Lib.data_getElem? T a2 hlt, hb]
              have hne : b ≠ 34 := by
                intro e
                rw [e] at hhd
                rw [(head_there T a2 34).2 hhd] at hq2
                cases hq2
              have HX3 := Lib.hid (quoted_byte HX.out hhd hne)
              have HQ2 := Lib.hid hq2
              clear hhd hne hq2
              go_wp2
              go_region
              go_wp2_with fail
              have hA1 : Aft w wr.drew R T a2 0 := HROWI.out.aft.drew
              have hO1 : OutS wr.drew w.heap.size (.slice rp C.length rc) C := HROWI.out.own
              have hO2 : Out wr.drew w.heap.size (.slice qp q.length qc) q := HOWN.out
              refine (HSK.out sQ _ a2 h2le hA1.r).mono ?_
              rintro e w3 ⟨rfl, hA3⟩
              rw [HQ2.out] at hA3
              have HROW3 : Hid (Row w w3 R T (.slice rp C.length rc) C a2) := ⟨own_aside hO1 hA3.g HRL.out, hA1.trans hA3, h2le⟩
              have HOWN3 : Hid (w3.ownsRow w.heap.size 5 1 (.slice qp q.length qc) q.length (Lib.byteCells q)) := own_aside hO2 hA3.g HRL.out
              clear hA1 hO1 hO2 hA3 c0 c1 c2 z1 z2
              obtain ⟨c0, c1, c2, z1, z2⟩ := HROW3.out.aft.r
              have hm1 : q.length + 1 ≤ maxLen := by have := HQL.out; unfold maxLen; omega
              have hm2 : (q.length + 1) * 1 ≤ 140737488355328 := by have := HQL.out; omega
              have HSW3 : Hid (w.heap.size ≤ w3.heap.size) := HROW3.out.aft.g.size
              have HSWA : Hid (∀ o : Obj, w.heap.size ≤ (w3.alloc o).heap.size) := fun o => (by have := HSW3.out; simp; omega)
              rw [HQ2.out]
              go_wp2
              go_region_law (first | (refine step_append_lies _ rfl _ _ 87 rfl w.heap.size 5 i5 (.int .u8 0) 1 1 Tryz.underlying87 hi5 b0 b1 b2 rfl (by decide) (.slice qp q.length qc) q.length (Lib.byteCells q) rfl (by first | exact HOWN3.out.alloc _ | exact (HOWN3.out.alloc _).drew) ⟨w3.heap.size, 0, none⟩ 1 1 [.int .u8 (b.toNat : Int)] rfl rfl (fun j u h => lit_cells w3 _ _ j u h) (by intro u hu; simp at hu; subst hu; rfl) (by decide) hm1 hm2 (HSWA.out _) (w3.heap.size + 1) (by simp) ?_; intro g4 cap4 w4 hown4 hgr4 hwh4 hlt4))
              all_goals
                have hal : Below w3.heap.size w3 (w3.alloc (.cells #[.int .u8 (b.toNat : Int)] 5)) := (Below.refl _ _).alloc (Nat.le_refl _) _
                have hrowlt : ∀ k, (Value.slice qp q.length qc).ownBlock = some k → w.heap.size ≤ k := fun k hk => (World.ownsRow.lt HOWN3.out k hk).1
                have hA4 : Aft w w4 R T a2 0 := by
                  first
                    | exact (HROW3.out.aft.below hal).app hgr4 hrowlt HRL.out
                    | exact (HROW3.out.aft.below hal).drew.app hgr4 hrowlt HRL.out
                have hO4 : OutS w4 w.heap.size (.slice rp C.length rc) C := by
                  have h1 : (w3.alloc (.cells #[.int .u8 (b.toNat : Int)] 5)).ownsRow w.heap.size 9 1 (.slice rp C.length rc) C.length (strs C) := World.ownsRow.alloc HROW3.out.own _
                  have h2 : (Value.slice rp C.length rc).ownBlock = none ∨ (Value.slice rp C.length rc).ownBlock ≠ (Value.slice qp q.length qc).ownBlock := own_apart HROW3.out.own HOWN3.out (by decide)
                  exact World.ownsRow.kept h1 (by first | exact hgr4 | exact ⟨hgr4.os, hgr4.tape, hgr4.output, hgr4.size, hgr4.block⟩) h2
                have hW4 : Out w4 w.heap.size (.slice (some ⟨g4, 0, none⟩) (q.length + 1) cap4) (q ++ [b]) := by
                  rw [bytes_snoc] at hown4
                  exact Out.of hown4 (by simp) rfl
                have HA4 := Lib.hid hA4
                have HO4 := Lib.hid hO4
                have HW4 := Lib.hid hW4
                clear hown4 hgr4 hwh4 hlt4 hal hrowlt hA4 hO4 hW4 c0 c1 c2 z1 z2
                obtain ⟨c0, c1, c2, z1, z2⟩ := HA4.out.r
                go_wp2
                go_roundg (T.size - (a2 + 1))
                case measure => omega
                case rel =>
                  have hA5 := HA4.out.at (a2 + 1)
                  have hO5 : OutS (w4.setCell ⟨R, 1, none⟩ (.int .i64 ((a2 + 1 : Nat) : Int))) w.heap.size (.slice rp C.length rc) C := own_aside HO4.out (grown_set _ _ _ _) HRL.out
                  have hW5 : Out (w4.setCell ⟨R, 1, none⟩ (.int .i64 ((a2 + 1 : Nat) : Int))) w.heap.size (.slice (some ⟨g4, 0, none⟩) (q.length + 1) cap4) (q ++ [b]) := own_aside HW4.out (grown_set _ _ _ _) HRL.out
                  rw [Int.natCast_add] at hA5 hO5 hW5
                  refine ⟨q ++ [b], a2 + 1, rfl, by have := HA2.out; omega, ⟨?_, ?_, by omega⟩, ?_, by have := HQL.out; simp; omega, HX3.out, rfl⟩
                  · exact hO5
                  · exact hA5
                  · exact hW5
            | true =>
              have hhd : (T.data.toList.drop a2).head? = some 34 := (head_there T a2 34).1 hq2
              have hfit2 := there_fits (s := sQ) h2le hq2
              have HFIT2 : Hid (a2 + 1 ≤ T.size) := hfit2
              have HXS := Lib.hid (quoted_shut HX.out hhd)
              have HQ2 := Lib.hid hq2
              clear hhd hq2 hfit2
              go_wp2
              go_region
              go_wp2_with fail
              have hA1 : Aft w wr.drew R T a2 0 := HROWI.out.aft.drew
              have hO1 : OutS wr.drew w.heap.size (.slice rp C.length rc) C := HROWI.out.own
              have hO2 : Out wr.drew w.heap.size (.slice qp q.length qc) q := HOWN.out
              refine (HSK.out sQ _ a2 h2le hA1.r).mono ?_
              rintro e w3 ⟨rfl, hA3⟩
              rw [HQ2.out] at hA3
              have HROW3 : Hid (Row w w3 R T (.slice rp C.length rc) C (a2 + 1)) := ⟨own_aside hO1 hA3.g HRL.out, hA1.trans hA3, HFIT2.out⟩
              have HOWN3 : Hid (Out w3 w.heap.size (.slice qp q.length qc) q) := own_aside hO2 hA3.g HRL.out
              clear hA1 hO1 hO2 hA3 c0 c1 c2 z1 z2
              rw [HQ2.out]
              cases hq3 : there T (a2 + 1) sQ with
              | true =>
                have hhd3 : (T.data.toList.drop (a2 + 1)).head? = some 34 := (head_there T (a2 + 1) 34).1 hq3
                have hfit3 := there_fits (s := sQ) HFIT2.out hq3
                have HFIT3 : Hid (a2 + 2 ≤ T.size) := hfit3
                have HX3 := Lib.hid (shut_twice HXS.out hhd3)
                have HQ3 := Lib.hid hq3
                clear hhd3 hq3 hfit3
                go_wp2_with fail
                refine (HSK.out sQ _ (a2 + 1) HFIT2.out HROW3.out.aft.r).mono ?_
                rintro e w4 ⟨rfl, hA4⟩
                rw [HQ3.out] at hA4
                have HROW4 : Hid (Row w w4 R T (.slice rp C.length rc) C (a2 + 2)) := ⟨own_aside HROW3.out.own hA4.g HRL.out, HROW3.out.aft.trans hA4, HFIT3.out⟩
                have HOWN4 : Hid (Out w4 w.heap.size (.slice qp q.length qc) q) := own_aside HOWN3.out hA4.g HRL.out
                clear hA4
                have hm1 : q.length + sQ.size ≤ maxLen := by have := HQL.out; have : sQ.size = 1 := rfl; unfold maxLen; omega
                have hm2 : q.length + sQ.size ≤ 140737488355328 := by have := HQL.out; have : sQ.size = 1 := rfl; omega
                have HSW4 : Hid (w.heap.size ≤ w4.heap.size) := HROW4.out.aft.g.size
                rw [HQ3.out]
                go_wp2_with (at_builtin; refine wpList_str rfl _ _ rfl w.heap.size i5 hi5 b0 b1 b2 (.slice qp q.length qc) q rfl HOWN4.out sQ rfl hm1 hm2 HSW4.out ?_)
                intro p5 k5 w5 hO5 hW5
                have hA5 : Aft w w5 R T (a2 + 2) 0 := HROW4.out.aft.app hW5.g (fun k hk => (World.ownsRow.lt HOWN4.out k hk).1) HRL.out
                have hR5 : OutS w5 w.heap.size (.slice rp C.length rc) C := World.ownsRow.kept HROW4.out.own hW5.g (own_apart HROW4.out.own HOWN4.out (by decide))
                have HROW5 : Hid (Row w w5 R T (.slice rp C.length rc) C (a2 + 2)) := ⟨hR5, hA5, HFIT3.out⟩
                have HO5 : Hid (Out w5 w.heap.size (.slice p5 (q.length + 1) k5) (q ++ [34])) := hO5
                clear hO5 hW5 hA5 hR5 hm1 hm2
                go_wp2
                go_roundg (T.size - (a2 + 2))
                case measure => have := HFIT3.out; omega
                case rel => exact ⟨q ++ [34], a2 + 2, rfl, by have := HA2.out; omega, HROW5.out, HO5.out, by have := HQL.out; simp; omega, HX3.out, rfl⟩
              | false =>
                have hne3 : (T.data.toList.drop (a2 + 1)).head? ≠ some 34 := fun e => by rw [(head_there T (a2 + 1) 34).2 e] at hq3; cases hq3
                have HCL := Lib.hid (close_any HXS.out (.inr (.inl ⟨⟨_, rfl⟩, hne3⟩)))
                have HQ3 := Lib.hid hq3
                clear hne3 hq3
                go_wp2_with fail
                refine (HSK.out sQ _ (a2 + 1) HFIT2.out HROW3.out.aft.r).mono ?_
                rintro e w4 ⟨rfl, hA4⟩
                rw [HQ3.out] at hA4
                have HROW4 : Hid (Row w w4 R T (.slice rp C.length rc) C (a2 + 1)) := ⟨own_aside HROW3.out.own hA4.g HRL.out, HROW3.out.aft.trans hA4, HFIT2.out⟩
                have hO4 : Out w4 w.heap.size (.slice qp q.length qc) q := own_aside HOWN3.out hA4.g HRL.out
                have hcv := run_str hO4.inn.1 qc
                clear hA4 hO4
                obtain ⟨a1, ha1⟩ : ∃ a1, a1 = a2 + 1 := ⟨_, rfl⟩
                rw [← ha1] at HROW4 HCL
                have HA1 : Hid (a ≤ a1) := by have := HA2.out; show _ ≤ _; omega
                have HCL1 : Hid (C.length + 1 ≤ a1 + 1) := by have := HCA.out; have := HA1.out; show _ ≤ _; omega
                have hm1 : C.length + 1 ≤ maxLen := by have := HCA.out; unfold maxLen; omega
                have hm2 : (C.length + 1) * 16 ≤ 140737488355328 := by have := HCA.out; omega
                have HSW4 : Hid (w.heap.size ≤ w4.heap.size) := HROW4.out.aft.g.size
                have HSWA : Hid (∀ o : Obj, w.heap.size ≤ (w4.alloc o).heap.size) := fun o => (by have := HSW4.out; simp; omega)
                have HA12 : Hid (a1 = a2 + 1) := ha1
                obtain ⟨cl, hcl⟩ : ∃ cl, cl = C.length := ⟨_, rfl⟩
                have HCLN := Lib.hid hcl
                rw [← hcl] at hm1 hm2 ⊢
                have OW4 : Hid (w4.ownsRow w.heap.size 9 1 (.slice rp cl rc) cl (strs C)) := by have := HROW4.out.own; unfold OutS at this; rw [← hcl] at this; exact this
                clear hcl ha1
                rw [HQ3.out]
                go_wp2_with (at_builtin; refine wpList_append_lies _ rfl _ _ 22 rfl w.heap.size 9 i9 (.string ⟨#[]⟩) 1 16 Tryz.underlying22 hi9 s0 s1 s2 rfl (by decide) _ _ _ rfl (World.ownsRow.alloc OW4.out _) ⟨w4.heap.size, 0, none⟩ 1 1 [.string ⟨q.toArray⟩] rfl rfl (lit_cells w4 _ _) (by intro u hu; simp at hu; subst hu; rfl) (by decide) hm1 hm2 (HSWA.out _) (w4.heap.size + 1) (by simp) ?_)
                intro g5 cap5 w5 hown5 hgr5 hwh5 hlt5
                have HROWN : Hid (Row w w5 R T (.slice (some ⟨g5, 0, none⟩) (cl + 1) cap5) (C ++ [q]) a1) := by
                  have hal : Below w4.heap.size w4 (w4.alloc (.cells #[.string ⟨q.toArray⟩] 9)) := (Below.refl _ _).alloc (Nat.le_refl _) _
                  have hA := HROW4.out.aft.below hal
                  refine ⟨?_, hA.app hgr5 (fun k hk => (World.ownsRow.lt OW4.out k hk).1) HRL.out, HROW4.out.le⟩
                  show World.ownsRow _ _ _ _ _ _ _
                  rw [← strs_snoc, show (C ++ [q]).length = cl + 1 by rw [List.length_append, ← show cl = _ from HCLN.out]; rfl]
                  exact hown5
                have HLEN : Hid ((C ++ [q]).length ≤ a1 + 1) := by have := HCL1.out; show _ ≤ _; rw [List.length_append]; simp; omega
                clear hown5 hgr5 hwh5 hlt5 hm1 hm2 hcv
                have HCM := Lib.hid (HSK.out sC)
                cases hcm : there T a1 sC with
                | false =>
                  have hne : (T.data.toList.drop (a1)).head? ≠ some 44 := fun e => by rw [(head_there T (a1) 44).2 e] at hcm; cases hcm
                  have HEE := Lib.hid (HCL.out.2 hne)
                  have HCMF := Lib.hid hcm
                  clear hne hcm
                  go_wp2_with fail
                  refine (HSK.out sC _ (a1) HROWN.out.le HROWN.out.aft.r).mono ?_
                  rintro e w9 ⟨rfl, hA9⟩
                  rw [HCMF.out] at hA9
                  have HROW9 : Hid (Row w w9 R T (.slice (some ⟨g5, 0, none⟩) (cl + 1) cap5) (C ++ [q]) (a1)) := ⟨own_aside HROWN.out.own hA9.g HRL.out, HROWN.out.aft.trans hA9, HROWN.out.le⟩
                  clear hA9
                  rw [HCMF.out]
                  go_wp2
                  go_roundg 0
                  case measure => omega
                  case rel => exact ⟨(C ++ [q]), a1, by have := H0A.out; have := HA1.out; omega, HROW9.out, HLEN.out, .inr ⟨rfl, by simp, HEE.out, rfl⟩⟩
                | true =>
                  have he : (T.data.toList.drop (a1)).head? = some 44 := (head_there T (a1) 44).1 hcm
                  have hfit := there_fits (s := sC) HROWN.out.le hcm
                  have HFIT : Hid (a1 + 1 ≤ T.size) := hfit
                  have HSS := Lib.hid (HCL.out.1 he)
                  have HCMF := Lib.hid hcm
                  clear he hcm hfit
                  go_wp2_with fail
                  refine (HSK.out sC _ (a1) HROWN.out.le HROWN.out.aft.r).mono ?_
                  rintro e w9 ⟨rfl, hA9⟩
                  rw [HCMF.out] at hA9
                  have HROW9 : Hid (Row w w9 R T (.slice (some ⟨g5, 0, none⟩) (cl + 1) cap5) (C ++ [q]) (a1 + 1)) := ⟨own_aside HROWN.out.own hA9.g HRL.out, HROWN.out.aft.trans hA9, HFIT.out⟩
                  clear hA9
                  rw [HCMF.out]
                  go_wp2
                  go_roundg (T.size - (a1 + 1) + 1)
                  case measure => have := HFIT.out; have := H0A.out; have := HA1.out; omega
                  case rel => exact ⟨(C ++ [q]), a1 + 1, by have := H0A.out; have := HA1.out; omega, HROW9.out, by have := HLEN.out; omega, .inl ⟨rfl, fun e => absurd e (by simp), by have := HLEN.out; have := HA12.out; have := HCL1.out; omega, HSS.out, rfl⟩⟩
    · have HROW := Lib.hid hrow
      have HE := Lib.hid hE
      have HC : Hid (C ≠ [] ∨ (endF (T.data.toList.drop a)).1 ≠ 0) := .inl hC
      clear hrow hE hC h0a
      go_wp2_with fail
      have hA1 := HROW.out.aft
      refine (HEN.out _ a HROW.out.le hA1.r).mono ?_
      rintro e w2 ⟨rfl, hA2⟩
      have HA2 := Lib.hid (hA1.trans hA2)
      have HO2 := Lib.hid (own_aside HROW.out.own hA2.g HRL.out)
      clear hA1 hA2
      go_wp2
      try rw [Exit.noGoto_ret]
      go_ret
      refine ⟨_, C, _, _, rfl, HO2.out, HA2.out, by have := endF_le (l := T.data.toList) (a := a) (by rw [HSZ.out]; exact HROW.out.le); rw [HSZ.out] at this; exact this, fun hf => ?_, row_done HE.out HC.out⟩
      have h1 := H0A.out
      by_cases hEq : a = a0
      · have h2 : T.data.toList.drop a ≠ [] := by
          intro e
          have := congrArg List.length e
          rw [List.length_drop, HSZ.out] at this
          have := HA0.out
          simp at *
          omega
        have := endF_pos h2 hf
        omega
      · omega
end Go.Proofs.YtkficmbkoinjjaaGreatDoor
