/- The document's own answer: Join. -/
import Derived.Test.YtkficmbkoinjjaaDoorD1
namespace Go.Proofs.YtkficmbkoinjjaaDoor
open Go Go.RowKit
set_option maxHeartbeats 8000000
set_option linter.unusedVariables false
set_option linter.unusedSimpArgs false
set_option maxRecDepth 100000 in
theorem refJoin_any (rows : List (List Cell)) (p : Option Addr) (c : Nat) (w : World) (hr : RowsIn w p rows) (hn : rows.length ≤ maxLen) (hsz : ∀ r ∈ rows, r.length ≤ maxLen ∧ ∀ c ∈ r, c.length ≤ 100000000) :
    Calls Tryd.prog 14 #[.slice p rows.length c] w (JoinIs w rows) := by
  obtain ⟨i5, hi5, b0, b1, b2⟩ := info_parts infoByte
  obtain ⟨n, hnn⟩ : ∃ n, n = rows.length := ⟨_, rfl⟩
  have HN := Lib.hid hnn
  rw [← hnn] at hn ⊢
  have HR := Lib.hid hr
  have HSZ := Lib.hid hsz
  unfold maxLen at hn
  clear hnn hr hsz
  go_enter Tryd.func14, Tryd.ntmps14
  obtain ⟨B, hB⟩ : ∃ B, B = w.heap.size := ⟨_, rfl⟩
  have HB0 := Lib.hid hB
  have HBB : Hid (B ≤ w.heap.size) := Nat.le_of_eq hB
  clear hB
  go_wp2
  go_loopw [4] (fun iv wr => ∃ k : Nat, k ≤ n ∧ iv = .int .i64 k ∧ wr = w ∧ ∀ r ∈ rows.take k, r ≠ []) (fun iv _ => n - (intOf iv).toNat)
  case atStart => exact ⟨0, Nat.zero_le _, rfl, rfl, by simp⟩
  case round =>
    obtain ⟨k, hk, rfl, rfl, hne⟩ := hrel
    have HNE := Lib.hid hne
    clear hne
    by_cases hlt : k < n
    · have hkl : k < rows.length := by rw [← HN.out]; exact hlt
      obtain ⟨r, b, o, q, d, hr, rfl, c0, hc⟩ := HR.out.nth hkl
      have hrm : r ∈ rows := List.mem_of_getElem? hr
      have hmm := (HSZ.out r hrm).1
      obtain ⟨m, hm⟩ : ∃ m, m = r.length := ⟨_, rfl⟩
      rw [← hm] at c0 hmm
      unfold maxLen at hmm
      have HM := Lib.hid hm
      have HRK := Lib.hid hr
      have HRM := Lib.hid hrm
      clear hkl hc hm hr hrm
      by_cases h0 : m = 0
      · have hE : joinF rows = 41 := by
          unfold joinF
          rw [if_pos]
          rw [List.any_eq_true]
          refine ⟨r, HRM.out, ?_⟩
          rw [List.isEmpty_iff]
          exact List.eq_nil_of_length_eq_zero (by rw [← show m = _ from HM.out]; exact h0)
        have HE := Lib.hid hE
        subst h0
        clear hE
        go_wp2
        first | go_ret2 | skip
        exact ⟨Below.refl _ _, by unfold joinT; rw [HE.out]; rfl⟩
      · have d0 : ((m : Int) == 0) = false := by simp; omega
        go_wp2
        go_roundw
        case rel => exact ⟨k + 1, by omega, by go_num, by first | rfl | trivial, fun r' hr' => by
          rw [List.take_add_one, HRK.out] at hr'
          rcases List.mem_append.1 hr' with hr' | hr'
          · exact HNE.out r' hr'
          · simp only [Option.toList_some, List.mem_singleton] at hr'
            subst hr'
            intro e
            have := HM.out
            rw [e] at this
            exact h0 this⟩
        case measure => simp [intOf]; omega
    · have hall : rows.any (·.isEmpty) = false := by
        rw [List.any_eq_false]
        intro r hr
        have hkk : k = rows.length := by have := HN.out; omega
        have := HNE.out r (by rw [hkk, List.take_of_length_le (Nat.le_refl _)]; exact hr)
        simpa using this
      have HALL := Lib.hid hall
      clear hall HNE
      have HJF : Hid (joinF rows = if 65536 < (joinL rows).length then 2 else 0) := by show _ = _; unfold joinF; rw [HALL.out]; rfl
      obtain ⟨w, rfl⟩ : ∃ x : World, x = wr := ⟨_, rfl⟩
      go_wp2
      go_loopw [5, 6] (fun ov iv wr => ∃ (k : Nat) (q : Option Addr) (m d : Nat), k ≤ n ∧ iv = .int .i64 k ∧ ov = .slice q m d ∧ m = (joinL (rows.take k)).length ∧ m ≤ 65538 ∧ Out wr B (.slice q m d) (joinL (rows.take k)) ∧ Below B w wr) (fun _ iv _ => n - (intOf iv).toNat)
      case atStart => exact ⟨0, none, 0, 0, Nat.zero_le _, rfl, rfl, rfl, by omega, Out.nil _ _, Below.refl _ _⟩
      case round =>
        obtain ⟨k, q, m, d, hk, rfl, rfl, hm, hm6, ho, hb⟩ := hrel
        have HO := Lib.hid ho
        have HBW := Lib.hid hb
        have HM := Lib.hid hm
        clear ho hb hm
        by_cases hkn : k < n
        · have hkl : k < rows.length := by rw [← HN.out]; exact hkn
          obtain ⟨r, b, o, q2, d2, hr, rfl, c0w, hc⟩ := HR.out.nth hkl
          have HLT2 : Hid (b < B) := by have := lt_of_cell c0w; rw [← show B = _ from HB0.out] at this; exact this
          have hrm : r ∈ rows := List.mem_of_getElem? hr
          have hsr := HSZ.out r hrm
          have HSR := Lib.hid hsr.2
          have hmm := hsr.1
          obtain ⟨rn, hrn⟩ : ∃ rn, rn = r.length := ⟨_, rfl⟩
          rw [← hrn] at c0w hmm
          unfold maxLen at hmm
          have HC0 := Lib.hid c0w
          have HRN := Lib.hid hrn
          have HC := Lib.hid hc
          have HRNE : Hid (r ≠ []) := by
            show _
            intro e
            subst e
            have := HALL.out
            rw [List.any_eq_false] at this
            exact absurd (this [] hrm) (by simp)
          have HJT : Hid (joinL (rows.take (k + 1)) = joinL (rows.take k) ++ rowW r) := by show _ = _; rw [joinL_take hkl, (List.getElem?_eq_some_iff.1 hr).2]
          have HJLE : Hid ((joinL (rows.take k)).length + (rowW r).length ≤ (joinL rows).length) := by have := joinL_le hkl; rw [(List.getElem?_eq_some_iff.1 hr).2] at this; exact this
          obtain ⟨J, hJ⟩ : ∃ J, J = joinL (rows.take k) := ⟨_, rfl⟩
          rw [← hJ] at HO HM HJT HJLE
          clear hkl hr hrm hsr hrn hc hJ c0w
          obtain ⟨wo, rfl⟩ : ∃ x : World, x = wr := ⟨_, rfl⟩
          go_wp2
          go_loopw [5, 7] (fun ov iv wr => ∃ (j : Nat) (q : Option Addr) (m d : Nat), j ≤ rn ∧ iv = .int .i64 j ∧ ov = .slice q m d ∧ m = (J ++ cellsW (r.take j)).length ∧ m ≤ 65538 ∧ (0 < j → m ≤ 65536) ∧ Out wr B (.slice q m d) (J ++ cellsW (r.take j)) ∧ Below B w wr) (fun _ iv _ => rn - (intOf iv).toNat)
          case atStart => exact ⟨0, q, m, d, Nat.zero_le _, rfl, rfl, by rw [HM.out]; simp [cellsW], hm6, fun h => absurd h (Nat.lt_irrefl _), by simpa [cellsW] using HO.out, HBW.out⟩
          case round =>
            obtain ⟨j, q3, m3, d3, hj, rfl, rfl, hm3, hm36, hj0, ho3, hb3⟩ := hrel
            have HBW3 := Lib.hid hb3
            have HB : Hid (B ≤ wr.heap.size) := Nat.le_trans HBB.out hb3.size
            have f0 := (hb3.cell (p := ⟨b, o + k, none⟩) HLT2.out).trans HC0.out
            by_cases hjr : j < rn
            · have hjl : j < r.length := by rw [← HRN.out]; exact hjr
              obtain ⟨cj, b', o', hcj, rfl, e0w⟩ := HC.out.nth hjl
              have HLT : Hid (b' < B) := by have := lt_of_cell e0w; rw [← show B = _ from HB0.out] at this; exact this
              have e0 := (hb3.cell (p := ⟨b', o' + j, none⟩) HLT.out).trans e0w
              have hcm : cj ∈ r := List.mem_of_getElem? hcj
              have hcs := HSR.out cj hcm
              have HCT : Hid (cellsW (r.take (j + 1)) = if j = 0 then cellW cj else cellsW (r.take j) ++ 44 :: cellW cj) := by show _ = _; rw [cellsW_take hjl, (List.getElem?_eq_some_iff.1 hcj).2]
              have HCLE : Hid ((cellsW (r.take (j + 1))).length + 2 ≤ (rowW r).length) := by have := cellsW_le (C := r) (k := j + 1); show _ ≤ _; unfold rowW; rw [List.length_append]; simp; omega
              obtain ⟨lj, hlj⟩ : ∃ lj, lj = J ++ cellsW (r.take j) := ⟨_, rfl⟩
              rw [← hlj] at ho3 hm3
              have HO : Hid (Out wr B (.slice q3 lj.length d3) lj) := by rw [hm3] at ho3; exact ho3
              have HLJ := Lib.hid hlj
              have HM3 : Hid (lj.length ≤ 65538) := by show _ ≤ _; omega
              have HLB : Hid (lj.length ≤ 70000) := by show _ ≤ _; omega
              obtain ⟨s, hs⟩ : ∃ s : ByteArray, s = ⟨cj.toArray⟩ := ⟨_, rfl⟩
              have hsl : s.data.toList = cj := by rw [hs]
              obtain ⟨cs, hcse⟩ : ∃ cs : ByteArray, cs = ⟨(cellW cj).toArray⟩ := ⟨_, rfl⟩
              have HWR : Hid (∀ wx, Calls Tryd.prog 26 #[.string s] wx fun e w' => e = .returned (.string cs) ∧ Below wx.heap.size wx w') := fun wx => by
                have := written_any s wx (by rw [Lib.size_eq, hsl]; exact hcs)
                rw [hsl, ← hcse] at this
                exact this
              have HCST : Hid (cs.toList = cellW cj) := by show _ = _; rw [hcse, ByteArray.toList_eq]
              have HCSZ : Hid (cs.size ≤ 200000002) := by have := cellW_len cj; show _ ≤ _; rw [← size_toList, HCST.out]; omega
              rw [← hs] at e0
              rw [hm3]
              clear e0w hjl hcj hcm hcs hlj ho3 hm3 hs hsl hcse hb3
              by_cases hjp : 0 < j
              · skip
                have hm1 : lj.length + 1 ≤ maxLen := by have := HLB.out; unfold maxLen; omega
                have hm2 : (lj.length + 1) * 1 ≤ 140737488355328 := by have := HLB.out; omega
                have HSW : Hid (∀ o : Obj, B ≤ (wr.alloc o).heap.size) := fun o => (by have := HB.out; simp; omega)
                go_wp2_with (at_builtin; refine wpList_append_lies _ rfl _ _ 57 rfl B 5 i5 (.int .u8 0) 1 1 Tryd.underlying57 hi5 b0 b1 b2 rfl (by decide) _ _ _ rfl (World.ownsRow.alloc HO.out _) ⟨wr.heap.size, 0, none⟩ 1 1 [.int .u8 44] rfl rfl (lit_cells wr _ _) (by intro u hu; simp at hu; subst hu; rfl) (by decide) hm1 hm2 (HSW.out _) (wr.heap.size + 1) (by simp) ?_)
                intro gE capE w5 hownE hgrE hwhE hltE
                have EO : Hid (Out w5 B (.slice (some ⟨gE, 0, none⟩) (lj.length + 1) capE) (lj ++ [44])) := Out.of hownE (by simp) (by simp [Lib.byteCells])
                have EW : Hid (Below B wr w5) := by
                  have h1 : Below B wr (wr.alloc (.cells #[.int .u8 44] 5)) := (Below.refl B wr).alloc HB.out _
                  exact h1.grown hgrE (HSW.out _) (fun k hk => (World.ownsRow.lt HO.out k hk).1)
                have EB : Hid (B ≤ w5.heap.size) := Nat.le_trans HB.out EW.out.size
                clear hownE hgrE hwhE hltE hm1 hm2
                have HLB : Hid ((lj ++ [(44 : UInt8)]).length ≤ 70000) := by have := HM3.out; show _ ≤ _; rw [List.length_append]; simp; omega
                obtain ⟨l2, hl2⟩ : ∃ l2, l2 = lj ++ [(44 : UInt8)] := ⟨_, rfl⟩
                have hn2 : lj.length + 1 = l2.length := by rw [hl2]; simp
                rw [← hl2, hn2] at EO
                rw [← hl2] at HLB
                rw [hn2]
                have e0 := (EW.out.cell (p := ⟨b', o' + j, none⟩) HLT.out).trans e0
                have f0 := (EW.out.cell (p := ⟨b, o + k, none⟩) HLT2.out).trans f0
                have HL2 := Lib.hid hl2
                have HBE : Hid (Below B w w5) := HBW3.out.trans EW.out
                clear hn2 hl2
                go_wp2_with fail
                refine (HWR.out w5).mono ?_
                rintro e wA ⟨rfl, hbA⟩
                have AO : Hid (Out wA B _ l2) := own_kept_any EO.out hbA
                have ABW : Hid (Below B w wA) := HBE.out.trans (hbA.mono EB.out)
                have AB : Hid (B ≤ wA.heap.size) := Nat.le_trans EB.out hbA.size
                have hm1 : l2.length + cs.size ≤ maxLen := by have := HCSZ.out; have := HLB.out; unfold maxLen; omega
                have hm2 : l2.length + cs.size ≤ 140737488355328 := by have := HCSZ.out; have := HLB.out; omega
                clear hbA
                go_wp2_with (at_builtin; refine wpList_str rfl _ _ rfl B i5 hi5 b0 b1 b2 _ l2 rfl AO.out cs rfl hm1 hm2 AB.out ?_)
                intro pC dC wC hOC hWC
                have HBC : Hid (Below B w wC) := ABW.out.trans (hWC.below AO.out AB.out)
                obtain ⟨M, hM⟩ : ∃ M, M = l2 ++ cs.toList := ⟨_, rfl⟩
                have hln : l2.length + cs.size = M.length := by rw [hM, List.length_append, size_toList]
                have hMe : J ++ cellsW (r.take (j + 1)) = M := by rw [hM, HCT.out, HCST.out]; rw [if_neg (by omega), HL2.out, HLJ.out]; simp
                have hMl : M.length ≤ 400000000 := by have := HCSZ.out; have := HLB.out; omega
                rw [hln] at hOC ⊢
                rw [← hM] at hOC
                have HOC := Lib.hid hOC
                have HME := Lib.hid hMe
                clear hOC hWC hm1 hm2 hln hMe hM
                obtain ⟨mn, hmn⟩ : ∃ mn, mn = M.length := ⟨_, rfl⟩
                have HMN := Lib.hid hmn
                rw [← hmn] at hMl ⊢
                clear hmn
                by_cases hbig : 65536 < mn
                · have hF : joinF rows = 2 := by
                    rw [HJF.out, if_pos]
                    have h1 := HJLE.out
                    have h2 := HCLE.out
                    have h3 := congrArg List.length HME.out
                    rw [List.length_append] at h3
                    have h4 : mn = _ := HMN.out
                    omega
                  have HF := Lib.hid hF
                  have dbig : decide ((65536 : Int) < (mn : Int)) = true := by simp; omega
                  clear hF hbig
                  go_wp2
                  first | go_ret2 | skip
                  exact ⟨by rw [← show B = _ from HB0.out]; exact HBC.out, by unfold joinT; rw [HF.out]; rfl⟩
                · have dbig : decide ((65536 : Int) < (mn : Int)) = false := by simp; omega
                  go_wp2
                  go_roundw
                  case rel => exact ⟨j + 1, pC, mn, dC, by omega, by go_num, rfl, by rw [HME.out]; exact HMN.out, by omega, fun _ => by omega, by rw [HME.out, show mn = _ from HMN.out]; exact HOC.out, HBC.out⟩
                  case measure => simp [intOf]; omega
              · skip
                have HO := HO
                go_wp2_with fail
                refine (HWR.out wr).mono ?_
                rintro e wA ⟨rfl, hbA⟩
                have AO : Hid (Out wA B _ lj) := own_kept_any HO.out hbA
                have ABW : Hid (Below B w wA) := HBW3.out.trans (hbA.mono HB.out)
                have AB : Hid (B ≤ wA.heap.size) := Nat.le_trans HB.out hbA.size
                have hm1 : lj.length + cs.size ≤ maxLen := by have := HCSZ.out; have := HLB.out; unfold maxLen; omega
                have hm2 : lj.length + cs.size ≤ 140737488355328 := by have := HCSZ.out; have := HLB.out; omega
                clear hbA
                go_wp2_with (at_builtin; refine wpList_str rfl _ _ rfl B i5 hi5 b0 b1 b2 _ lj rfl AO.out cs rfl hm1 hm2 AB.out ?_)
                intro pC dC wC hOC hWC
                have HBC : Hid (Below B w wC) := ABW.out.trans (hWC.below AO.out AB.out)
                obtain ⟨M, hM⟩ : ∃ M, M = lj ++ cs.toList := ⟨_, rfl⟩
                have hln : lj.length + cs.size = M.length := by rw [hM, List.length_append, size_toList]
                have hMe : J ++ cellsW (r.take (j + 1)) = M := by rw [hM, HCT.out, HCST.out]; rw [if_pos (by omega), HLJ.out, show r.take j = [] by (rw [show j = 0 by omega]; rfl)]; simp [cellsW]
                have hMl : M.length ≤ 400000000 := by have := HCSZ.out; have := HLB.out; omega
                rw [hln] at hOC ⊢
                rw [← hM] at hOC
                have HOC := Lib.hid hOC
                have HME := Lib.hid hMe
                clear hOC hWC hm1 hm2 hln hMe hM
                obtain ⟨mn, hmn⟩ : ∃ mn, mn = M.length := ⟨_, rfl⟩
                have HMN := Lib.hid hmn
                rw [← hmn] at hMl ⊢
                clear hmn
                by_cases hbig : 65536 < mn
                · have hF : joinF rows = 2 := by
                    rw [HJF.out, if_pos]
                    have h1 := HJLE.out
                    have h2 := HCLE.out
                    have h3 := congrArg List.length HME.out
                    rw [List.length_append] at h3
                    have h4 : mn = _ := HMN.out
                    omega
                  have HF := Lib.hid hF
                  have dbig : decide ((65536 : Int) < (mn : Int)) = true := by simp; omega
                  clear hF hbig
                  go_wp2
                  first | go_ret2 | skip
                  exact ⟨by rw [← show B = _ from HB0.out]; exact HBC.out, by unfold joinT; rw [HF.out]; rfl⟩
                · have dbig : decide ((65536 : Int) < (mn : Int)) = false := by simp; omega
                  go_wp2
                  go_roundw
                  case rel => exact ⟨j + 1, pC, mn, dC, by omega, by go_num, rfl, by rw [HME.out]; exact HMN.out, by omega, fun _ => by omega, by rw [HME.out, show mn = _ from HMN.out]; exact HOC.out, HBC.out⟩
                  case measure => simp [intOf]; omega
            · have hjj : j = r.length := by have := HRN.out; omega
              have hfull : r.take j = r := by rw [hjj, List.take_of_length_le (Nat.le_refl _)]
              have hj1 : 0 < j := by
                have := List.length_pos_iff.2 HRNE.out
                omega
              have hm2 := hj0 hj1
              rw [hfull] at ho3 hm3
              obtain ⟨l4, hl4⟩ : ∃ l4, l4 = J ++ cellsW r := ⟨_, rfl⟩
              rw [← hl4] at ho3 hm3
              have HO : Hid (Out wr B (.slice q3 l4.length d3) l4) := by rw [hm3] at ho3; exact ho3
              have HLB : Hid (l4.length ≤ 65536) := by show _ ≤ _; omega
              have HJT2 : Hid (joinL (rows.take (k + 1)) = l4 ++ [13, 10]) := by show _ = _; rw [HJT.out, hl4]; unfold rowW; rw [List.append_assoc]
              rw [hm3]
              clear hfull hjj hl4 ho3 hm3 hb3
              have hm1 : l4.length + 2 ≤ maxLen := by have := HLB.out; unfold maxLen; omega
              have hm2 : (l4.length + 2) * 1 ≤ 140737488355328 := by have := HLB.out; omega
              have HSW : Hid (∀ o : Obj, B ≤ (wr.alloc o).heap.size) := fun o => (by have := HB.out; simp; omega)
              go_wp2_with (at_builtin; refine wpList_append_lies _ rfl _ _ 57 rfl B 5 i5 (.int .u8 0) 1 1 Tryd.underlying57 hi5 b0 b1 b2 rfl (by decide) _ _ _ rfl (World.ownsRow.alloc HO.out _) ⟨wr.heap.size, 0, none⟩ 2 2 [.int .u8 13, .int .u8 10] rfl rfl (lit_cells wr _ _) (by intro u hu; simp at hu; rcases hu with rfl | rfl <;> rfl) (by decide) hm1 hm2 (HSW.out _) (wr.heap.size + 1) (by simp) ?_)
              intro gE capE w5 hownE hgrE hwhE hltE
              have EO : Hid (Out w5 B (.slice (some ⟨gE, 0, none⟩) (l4.length + 2) capE) (l4 ++ [13, 10])) := Out.of hownE (by simp) (by simp [Lib.byteCells])
              have EW : Hid (Below B wr w5) := by
                have h1 : Below B wr (wr.alloc (.cells #[.int .u8 13, .int .u8 10] 5)) := (Below.refl B wr).alloc HB.out _
                exact h1.grown hgrE (HSW.out _) (fun k hk => (World.ownsRow.lt HO.out k hk).1)
              have EB : Hid (B ≤ w5.heap.size) := Nat.le_trans HB.out EW.out.size
              clear hownE hgrE hwhE hltE hm1 hm2
              have HB5 : Hid (Below B w w5) := HBW3.out.trans EW.out
              go_wp2
              go_roundw
              case rel => exact ⟨k + 1, _, l4.length + 2, _, by omega, by go_num, rfl, by rw [HJT2.out]; simp, by have := HLB.out; omega, by rw [HJT2.out]; exact EO.out, HB5.out⟩
              case measure => simp [intOf]; omega
        · have hkk : k = rows.length := by have := HN.out; omega
          have hfull : rows.take k = rows := by rw [hkk, List.take_of_length_le (Nat.le_refl _)]
          rw [hfull] at HO HM
          have HW0 : Hid (Below w.heap.size w wr) := by have := HBW.out; rw [show B = _ from HB0.out] at this; exact this
          by_cases hbig : 65536 < m
          · have HF : Hid (joinF rows = 2) := by show _ = _; rw [HJF.out, if_pos (by rw [← show m = _ from HM.out]; exact hbig)]
            have dbig : decide ((65536 : Int) < (m : Int)) = true := by simp; omega
            clear hkk hfull hbig
            go_wp2
            first | go_ret2 | skip
            exact ⟨HW0.out, by unfold joinT; rw [HF.out]; rfl⟩
          · have HF0 : Hid (joinF rows = 0) := by show _ = _; rw [HJF.out, if_neg (by have := HM.out; omega)]
            have dbig : decide ((65536 : Int) < (m : Int)) = false := by simp; omega
            obtain rfl := HM.out
            have hcv := run_str HO.out.inn.1 d
            obtain ⟨J, hJ⟩ : ∃ J, J = joinL rows := ⟨_, rfl⟩
            rw [← hJ] at hcv dbig ⊢
            have HJ := Lib.hid hJ
            clear hfull hkk hJ hbig
            go_wp2
            first | go_ret2 | skip
            exact ⟨HW0.out, by unfold joinT; rw [HF0.out, if_pos rfl, ← show J = _ from HJ.out]; rfl⟩
end Go.Proofs.YtkficmbkoinjjaaDoor
