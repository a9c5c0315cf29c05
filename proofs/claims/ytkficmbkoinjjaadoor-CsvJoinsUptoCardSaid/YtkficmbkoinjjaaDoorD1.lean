/- The document's own answer: a cell's text. -/
import Derived.Test.YtkficmbkoinjjaaDoorK4
import Derived.Test.YtkficmbkoinjjaaDoorP7
namespace Go.Proofs.YtkficmbkoinjjaaDoor
open Go Go.RowKit
set_option maxHeartbeats 8000000
set_option linter.unusedVariables false
set_option linter.unusedSimpArgs false
theorem esc_snoc (b : UInt8) : ∀ l : List UInt8, esc (l ++ [b]) = esc l ++ if b = 34 then [34, 34] else [b]
  | [] => by by_cases h : b = 34 <;> simp [esc, h]
  | x :: l => by
    have ih := esc_snoc b l
    by_cases h : x = 34 <;> simp [esc, h, ih]
set_option maxRecDepth 100000 in
theorem written_any (s : ByteArray) (w : World) (hs : s.size ≤ 100000000) : Calls Tryd.prog 26 #[.string s] w fun e w' => e = .returned (.string ⟨(cellW s.data.toList).toArray⟩) ∧ Below w.heap.size w w' := by
  obtain ⟨i5, hi5, b0, b1, b2⟩ := info_parts infoByte
  have HSZ : Hid (s.data.toList.length = s.size) := (Lib.size_eq s).symm
  obtain ⟨B, hB⟩ : ∃ B, B = w.heap.size := ⟨_, rfl⟩
  have HB0 := Lib.hid hB
  rw [← hB]
  have HBB : Hid (B ≤ w.heap.size) := Nat.le_of_eq hB
  have HO : Hid (Out w B (.slice none 0 0) []) := Out.nil _ _
  have HNL : Hid (([] : List UInt8).length ≤ 300000000) := by show _ ≤ _; simp
  clear hB
  go_enter Tryd.func26, Tryd.ntmps26
  have hm1 : ([] : List UInt8).length + 1 ≤ maxLen := by have := HNL.out; unfold maxLen; omega
  have hm2 : (([] : List UInt8).length + 1) * 1 ≤ 140737488355328 := by have := HNL.out; omega
  have HSW : Hid (∀ o : Obj, B ≤ (w.alloc o).heap.size) := fun o => (by have := HBB.out; simp; omega)
  go_wp2_with (at_builtin; refine wpList_append_lies _ rfl _ _ 57 rfl B 5 i5 (.int .u8 0) 1 1 Tryd.underlying57 hi5 b0 b1 b2 rfl (by decide) _ _ _ rfl (World.ownsRow.alloc HO.out _) ⟨w.heap.size, 0, none⟩ 1 1 [.int .u8 34] rfl rfl (lit_cells w _ _) (by intro u hu; simp at hu; subst hu; rfl) (by decide) hm1 hm2 (HSW.out _) (w.heap.size + 1) (by simp) ?_)
  intro gA capA w1 hownA hgrA hwhA hltA
  have AO : Hid (Out w1 B (.slice (some ⟨gA, 0, none⟩) (([] : List UInt8).length + 1) capA) (([] : List UInt8) ++ [34])) := Out.of hownA (by simp) (by simp [Lib.byteCells])
  have AW : Hid (Below B w w1) := by
    have h1 : Below B w (w.alloc (.cells #[.int .u8 34] 5)) := (Below.refl B w).alloc HBB.out _
    exact h1.grown hgrA (HSW.out _) (fun k hk => (World.ownsRow.lt HO.out k hk).1)
  have AB : Hid (B ≤ w1.heap.size) := Nat.le_trans HBB.out AW.out.size
  clear hownA hgrA hwhA hltA hm1 hm2
  go_wp2
  go_loopw [3, 4, 5] (fun pv ov iv wr => ∃ (i : Nat) (q : Option Addr) (d : Nat) (pl0 : Bool), i ≤ s.size ∧ iv = .int .i64 i ∧ pv = .bool (!pl0) ∧ ov = .slice q (34 :: esc (s.data.toList.take i)).length d ∧ Out wr B (.slice q (34 :: esc (s.data.toList.take i)).length d) (34 :: esc (s.data.toList.take i)) ∧ Below B w wr ∧ pl0 = (s.data.toList.take i).any odd) (fun _ _ iv _ => s.size - (intOf iv).toNat)
  case atStart => exact ⟨0, _, _, false, Nat.zero_le _, rfl, rfl, rfl, by simpa [esc] using AO.out, AW.out, by simp⟩
  case round =>
    obtain ⟨i, q, d, pl0, hi, rfl, rfl, rfl, ho, hb, hpl⟩ := hrel
    obtain ⟨L, hL⟩ : ∃ L, L = 34 :: esc (s.data.toList.take i) := ⟨_, rfl⟩
    rw [← hL] at ho ⊢
    have HL := Lib.hid hL
    have HO := Lib.hid ho
    have HBW := Lib.hid hb
    have HB : Hid (B ≤ wr.heap.size) := Nat.le_trans HBB.out hb.size
    have HPL := Lib.hid hpl
    have hln : L.length ≤ 200000001 := by
      rw [hL, List.length_cons, esc_len]
      have h1 := List.count_le_length (a := (34 : UInt8)) (l := s.data.toList.take i)
      have h2 : (s.data.toList.take i).length ≤ i := by rw [List.length_take]; omega
      omega
    have HNL : Hid (L.length ≤ 300000000) := by show _ ≤ _; omega
    clear hL ho hb hpl
    by_cases hit : i < s.size
    · obtain ⟨b, hb⟩ : ∃ b, s[i]'hit = b := ⟨_, rfl⟩
      have hbl : s.data.toList[i]? = some b := by rw [Lib.data_getElem? s i hit, hb]
      have HTK : Hid (s.data.toList.take (i + 1) = s.data.toList.take i ++ [b]) := by
        obtain ⟨h1, h2⟩ := List.getElem?_eq_some_iff.1 hbl
        show _ = _
        rw [take_snoc' h1, h2]
      clear hbl
      by_cases h44 : b = 44
      · have h34 : b ≠ 34 := by rw [h44]; decide
        have h13 : b ≠ 13 := by rw [h44]; decide
        have h10 : b ≠ 10 := by rw [h44]; decide
        have e44 : ((b.toNat : Int) == 44) = true := by rw [h44]; rfl
        have e34 : ((b.toNat : Int) == 34) = false := by
          rw [beq_eq_false_iff_ne]
          intro e
          exact h34 (UInt8.toNat_inj.1 (by have hh : b.toNat = 34 := (by omega); simpa using hh))
        have e13 : ((b.toNat : Int) == 13) = false := by
          rw [beq_eq_false_iff_ne]
          intro e
          exact h13 (UInt8.toNat_inj.1 (by have hh : b.toNat = 13 := (by omega); simpa using hh))
        have e10 : ((b.toNat : Int) == 10) = false := by
          rw [beq_eq_false_iff_ne]
          intro e
          exact h10 (UInt8.toNat_inj.1 (by have hh : b.toNat = 10 := (by omega); simpa using hh))
        have hesc : esc (s.data.toList.take (i + 1)) = esc (s.data.toList.take i) ++ [b] := by rw [HTK.out, esc_snoc]; simp [h44]
        have hany : (s.data.toList.take (i + 1)).any odd = true := by rw [HTK.out, List.any_append, ← HPL.out]; simp [odd, h44]
        have HESC := Lib.hid hesc
        have HANY := Lib.hid hany
        clear hesc hany h44 h34 h13 h10
        have hm1 : L.length + 1 ≤ maxLen := by have := HNL.out; unfold maxLen; omega
        have hm2 : (L.length + 1) * 1 ≤ 140737488355328 := by have := HNL.out; omega
        have HSW : Hid (∀ o : Obj, B ≤ (wr.alloc o).heap.size) := fun o => (by have := HB.out; simp; omega)
        go_wp2_with (at_builtin; refine wpList_append_lies _ rfl _ _ 57 rfl B 5 i5 (.int .u8 0) 1 1 Tryd.underlying57 hi5 b0 b1 b2 rfl (by decide) _ _ _ rfl (World.ownsRow.alloc HO.out _) ⟨wr.heap.size, 0, none⟩ 1 1 [.int .u8 (b.toNat : Int)] rfl rfl (lit_cells wr _ _) (by intro u hu; simp at hu; subst hu; rfl) (by decide) hm1 hm2 (HSW.out _) (wr.heap.size + 1) (by simp) ?_)
        intro gE capE w5 hownE hgrE hwhE hltE
        have EO : Hid (Out w5 B (.slice (some ⟨gE, 0, none⟩) (L.length + 1) capE) (L ++ [b])) := Out.of hownE (by simp) (by simp [Lib.byteCells])
        have EW : Hid (Below B wr w5) := by
          have h1 : Below B wr (wr.alloc (.cells #[.int .u8 (b.toNat : Int)] 5)) := (Below.refl B wr).alloc HB.out _
          exact h1.grown hgrE (HSW.out _) (fun k hk => (World.ownsRow.lt HO.out k hk).1)
        have EB : Hid (B ≤ w5.heap.size) := Nat.le_trans HB.out EW.out.size
        clear hownE hgrE hwhE hltE hm1 hm2
        go_wp2
        go_roundw
        case rel =>
          have hfin : L ++ [b] = 34 :: esc (s.data.toList.take (i + 1)) := by rw [HL.out, HESC.out]; simp
          have hO := EO.out
          rw [hfin] at hO
          have hl : L.length + 1 = (34 :: esc (s.data.toList.take (i + 1))).length := by rw [← hfin]; simp
          rw [hl] at hO ⊢
          exact ⟨i + 1, _, _, true, by omega, by go_num, rfl, rfl, hO, (HBW.out.trans EW.out), HANY.out.symm⟩
        case measure => simp [intOf]; omega
      · by_cases h34 : b = 34
        · have h13 : b ≠ 13 := by rw [h34]; decide
          have h10 : b ≠ 10 := by rw [h34]; decide
          have e44 : ((b.toNat : Int) == 44) = false := by
            rw [beq_eq_false_iff_ne]
            intro e
            exact h44 (UInt8.toNat_inj.1 (by have hh : b.toNat = 44 := (by omega); simpa using hh))
          have e34 : ((b.toNat : Int) == 34) = true := by rw [h34]; rfl
          have e13 : ((b.toNat : Int) == 13) = false := by
            rw [beq_eq_false_iff_ne]
            intro e
            exact h13 (UInt8.toNat_inj.1 (by have hh : b.toNat = 13 := (by omega); simpa using hh))
          have e10 : ((b.toNat : Int) == 10) = false := by
            rw [beq_eq_false_iff_ne]
            intro e
            exact h10 (UInt8.toNat_inj.1 (by have hh : b.toNat = 10 := (by omega); simpa using hh))
          have hesc : esc (s.data.toList.take (i + 1)) = esc (s.data.toList.take i) ++ [34, 34] := by rw [HTK.out, esc_snoc]; simp [h34]
          have hany : (s.data.toList.take (i + 1)).any odd = true := by rw [HTK.out, List.any_append, ← HPL.out]; simp [odd, h34]
          have HESC := Lib.hid hesc
          have HANY := Lib.hid hany
          have H34 := Lib.hid h34
          clear hesc hany h44 h34 h13 h10
          have hm1 : L.length + 1 ≤ maxLen := by have := HNL.out; unfold maxLen; omega
          have hm2 : (L.length + 1) * 1 ≤ 140737488355328 := by have := HNL.out; omega
          have HSW : Hid (∀ o : Obj, B ≤ (wr.alloc o).heap.size) := fun o => (by have := HB.out; simp; omega)
          go_wp2_with (at_builtin; refine wpList_append_lies _ rfl _ _ 57 rfl B 5 i5 (.int .u8 0) 1 1 Tryd.underlying57 hi5 b0 b1 b2 rfl (by decide) _ _ _ rfl (World.ownsRow.alloc HO.out _) ⟨wr.heap.size, 0, none⟩ 1 1 [.int .u8 34] rfl rfl (lit_cells wr _ _) (by intro u hu; simp at hu; subst hu; rfl) (by decide) hm1 hm2 (HSW.out _) (wr.heap.size + 1) (by simp) ?_)
          intro gA capA w4 hownA hgrA hwhA hltA
          have AO : Hid (Out w4 B (.slice (some ⟨gA, 0, none⟩) (L.length + 1) capA) (L ++ [34])) := Out.of hownA (by simp) (by simp [Lib.byteCells])
          have AW : Hid (Below B wr w4) := by
            have h1 : Below B wr (wr.alloc (.cells #[.int .u8 34] 5)) := (Below.refl B wr).alloc HB.out _
            exact h1.grown hgrA (HSW.out _) (fun k hk => (World.ownsRow.lt HO.out k hk).1)
          have AB : Hid (B ≤ w4.heap.size) := Nat.le_trans HB.out AW.out.size
          clear hownA hgrA hwhA hltA hm1 hm2
          obtain ⟨L2, hL2⟩ : ∃ L2, L2 = L ++ [(34 : UInt8)] := ⟨_, rfl⟩
          have hn2 : L.length + 1 = L2.length := by rw [hL2]; simp
          rw [← hL2, hn2] at AO
          rw [hn2]
          have HL2 := Lib.hid hL2
          have HNL : Hid (L2.length ≤ 300000000) := by have := HNL.out; show _ ≤ _; omega
          clear hn2 hL2
          have hm1 : L2.length + 1 ≤ maxLen := by have := HNL.out; unfold maxLen; omega
          have hm2 : (L2.length + 1) * 1 ≤ 140737488355328 := by have := HNL.out; omega
          have HSW : Hid (∀ o : Obj, B ≤ (w4.alloc o).heap.size) := fun o => (by have := AB.out; simp; omega)
          go_wp2_with (at_builtin; refine wpList_append_lies _ rfl _ _ 57 rfl B 5 i5 (.int .u8 0) 1 1 Tryd.underlying57 hi5 b0 b1 b2 rfl (by decide) _ _ _ rfl (World.ownsRow.alloc AO.out _) ⟨w4.heap.size, 0, none⟩ 1 1 [.int .u8 (b.toNat : Int)] rfl rfl (lit_cells w4 _ _) (by intro u hu; simp at hu; subst hu; rfl) (by decide) hm1 hm2 (HSW.out _) (w4.heap.size + 1) (by simp) ?_)
          intro gE capE w5 hownE hgrE hwhE hltE
          have EO : Hid (Out w5 B (.slice (some ⟨gE, 0, none⟩) (L2.length + 1) capE) (L2 ++ [b])) := Out.of hownE (by simp) (by simp [Lib.byteCells])
          have EW : Hid (Below B w4 w5) := by
            have h1 : Below B w4 (w4.alloc (.cells #[.int .u8 (b.toNat : Int)] 5)) := (Below.refl B w4).alloc AB.out _
            exact h1.grown hgrE (HSW.out _) (fun k hk => (World.ownsRow.lt AO.out k hk).1)
          have EB : Hid (B ≤ w5.heap.size) := Nat.le_trans AB.out EW.out.size
          clear hownE hgrE hwhE hltE hm1 hm2
          go_wp2
          go_roundw
          case rel =>
            have hfin : L2 ++ [b] = 34 :: esc (s.data.toList.take (i + 1)) := by rw [HL2.out, HL.out, HESC.out, H34.out]; simp
            have hO := EO.out
            rw [hfin] at hO
            have hl : L2.length + 1 = (34 :: esc (s.data.toList.take (i + 1))).length := by rw [← hfin]; simp
            rw [hl] at hO ⊢
            exact ⟨i + 1, _, _, true, by omega, by go_num, rfl, rfl, hO, (HBW.out.trans (AW.out.trans EW.out)), HANY.out.symm⟩
          case measure => simp [intOf]; omega
        · by_cases h13 : b = 13
          · have h10 : b ≠ 10 := by rw [h13]; decide
            have e44 : ((b.toNat : Int) == 44) = false := by
              rw [beq_eq_false_iff_ne]
              intro e
              exact h44 (UInt8.toNat_inj.1 (by have hh : b.toNat = 44 := (by omega); simpa using hh))
            have e34 : ((b.toNat : Int) == 34) = false := by
              rw [beq_eq_false_iff_ne]
              intro e
              exact h34 (UInt8.toNat_inj.1 (by have hh : b.toNat = 34 := (by omega); simpa using hh))
            have e13 : ((b.toNat : Int) == 13) = true := by rw [h13]; rfl
            have e10 : ((b.toNat : Int) == 10) = false := by
              rw [beq_eq_false_iff_ne]
              intro e
              exact h10 (UInt8.toNat_inj.1 (by have hh : b.toNat = 10 := (by omega); simpa using hh))
            have hesc : esc (s.data.toList.take (i + 1)) = esc (s.data.toList.take i) ++ [b] := by rw [HTK.out, esc_snoc]; simp [h13]
            have hany : (s.data.toList.take (i + 1)).any odd = true := by rw [HTK.out, List.any_append, ← HPL.out]; simp [odd, h13]
            have HESC := Lib.hid hesc
            have HANY := Lib.hid hany
            clear hesc hany h44 h34 h13 h10
            have hm1 : L.length + 1 ≤ maxLen := by have := HNL.out; unfold maxLen; omega
            have hm2 : (L.length + 1) * 1 ≤ 140737488355328 := by have := HNL.out; omega
            have HSW : Hid (∀ o : Obj, B ≤ (wr.alloc o).heap.size) := fun o => (by have := HB.out; simp; omega)
            go_wp2_with (at_builtin; refine wpList_append_lies _ rfl _ _ 57 rfl B 5 i5 (.int .u8 0) 1 1 Tryd.underlying57 hi5 b0 b1 b2 rfl (by decide) _ _ _ rfl (World.ownsRow.alloc HO.out _) ⟨wr.heap.size, 0, none⟩ 1 1 [.int .u8 (b.toNat : Int)] rfl rfl (lit_cells wr _ _) (by intro u hu; simp at hu; subst hu; rfl) (by decide) hm1 hm2 (HSW.out _) (wr.heap.size + 1) (by simp) ?_)
            intro gE capE w5 hownE hgrE hwhE hltE
            have EO : Hid (Out w5 B (.slice (some ⟨gE, 0, none⟩) (L.length + 1) capE) (L ++ [b])) := Out.of hownE (by simp) (by simp [Lib.byteCells])
            have EW : Hid (Below B wr w5) := by
              have h1 : Below B wr (wr.alloc (.cells #[.int .u8 (b.toNat : Int)] 5)) := (Below.refl B wr).alloc HB.out _
              exact h1.grown hgrE (HSW.out _) (fun k hk => (World.ownsRow.lt HO.out k hk).1)
            have EB : Hid (B ≤ w5.heap.size) := Nat.le_trans HB.out EW.out.size
            clear hownE hgrE hwhE hltE hm1 hm2
            go_wp2
            go_roundw
            case rel =>
              have hfin : L ++ [b] = 34 :: esc (s.data.toList.take (i + 1)) := by rw [HL.out, HESC.out]; simp
              have hO := EO.out
              rw [hfin] at hO
              have hl : L.length + 1 = (34 :: esc (s.data.toList.take (i + 1))).length := by rw [← hfin]; simp
              rw [hl] at hO ⊢
              exact ⟨i + 1, _, _, true, by omega, by go_num, rfl, rfl, hO, (HBW.out.trans EW.out), HANY.out.symm⟩
            case measure => simp [intOf]; omega
          · by_cases h10 : b = 10
            · have e44 : ((b.toNat : Int) == 44) = false := by
                rw [beq_eq_false_iff_ne]
                intro e
                exact h44 (UInt8.toNat_inj.1 (by have hh : b.toNat = 44 := (by omega); simpa using hh))
              have e34 : ((b.toNat : Int) == 34) = false := by
                rw [beq_eq_false_iff_ne]
                intro e
                exact h34 (UInt8.toNat_inj.1 (by have hh : b.toNat = 34 := (by omega); simpa using hh))
              have e13 : ((b.toNat : Int) == 13) = false := by
                rw [beq_eq_false_iff_ne]
                intro e
                exact h13 (UInt8.toNat_inj.1 (by have hh : b.toNat = 13 := (by omega); simpa using hh))
              have e10 : ((b.toNat : Int) == 10) = true := by rw [h10]; rfl
              have hesc : esc (s.data.toList.take (i + 1)) = esc (s.data.toList.take i) ++ [b] := by rw [HTK.out, esc_snoc]; simp [h10]
              have hany : (s.data.toList.take (i + 1)).any odd = true := by rw [HTK.out, List.any_append, ← HPL.out]; simp [odd, h10]
              have HESC := Lib.hid hesc
              have HANY := Lib.hid hany
              clear hesc hany h44 h34 h13 h10
              have hm1 : L.length + 1 ≤ maxLen := by have := HNL.out; unfold maxLen; omega
              have hm2 : (L.length + 1) * 1 ≤ 140737488355328 := by have := HNL.out; omega
              have HSW : Hid (∀ o : Obj, B ≤ (wr.alloc o).heap.size) := fun o => (by have := HB.out; simp; omega)
              go_wp2_with (at_builtin; refine wpList_append_lies _ rfl _ _ 57 rfl B 5 i5 (.int .u8 0) 1 1 Tryd.underlying57 hi5 b0 b1 b2 rfl (by decide) _ _ _ rfl (World.ownsRow.alloc HO.out _) ⟨wr.heap.size, 0, none⟩ 1 1 [.int .u8 (b.toNat : Int)] rfl rfl (lit_cells wr _ _) (by intro u hu; simp at hu; subst hu; rfl) (by decide) hm1 hm2 (HSW.out _) (wr.heap.size + 1) (by simp) ?_)
              intro gE capE w5 hownE hgrE hwhE hltE
              have EO : Hid (Out w5 B (.slice (some ⟨gE, 0, none⟩) (L.length + 1) capE) (L ++ [b])) := Out.of hownE (by simp) (by simp [Lib.byteCells])
              have EW : Hid (Below B wr w5) := by
                have h1 : Below B wr (wr.alloc (.cells #[.int .u8 (b.toNat : Int)] 5)) := (Below.refl B wr).alloc HB.out _
                exact h1.grown hgrE (HSW.out _) (fun k hk => (World.ownsRow.lt HO.out k hk).1)
              have EB : Hid (B ≤ w5.heap.size) := Nat.le_trans HB.out EW.out.size
              clear hownE hgrE hwhE hltE hm1 hm2
              go_wp2
              go_roundw
              case rel =>
                have hfin : L ++ [b] = 34 :: esc (s.data.toList.take (i + 1)) := by rw [HL.out, HESC.out]; simp
                have hO := EO.out
                rw [hfin] at hO
                have hl : L.length + 1 = (34 :: esc (s.data.toList.take (i + 1))).length := by rw [← hfin]; simp
                rw [hl] at hO ⊢
                exact ⟨i + 1, _, _, true, by omega, by go_num, rfl, rfl, hO, (HBW.out.trans EW.out), HANY.out.symm⟩
              case measure => simp [intOf]; omega
            · have e44 : ((b.toNat : Int) == 44) = false := by
                rw [beq_eq_false_iff_ne]
                intro e
                exact h44 (UInt8.toNat_inj.1 (by have hh : b.toNat = 44 := (by omega); simpa using hh))
              have e34 : ((b.toNat : Int) == 34) = false := by
                rw [beq_eq_false_iff_ne]
                intro e
                exact h34 (UInt8.toNat_inj.1 (by have hh : b.toNat = 34 := (by omega); simpa using hh))
              have e13 : ((b.toNat : Int) == 13) = false := by
                rw [beq_eq_false_iff_ne]
                intro e
                exact h13 (UInt8.toNat_inj.1 (by have hh : b.toNat = 13 := (by omega); simpa using hh))
              have e10 : ((b.toNat : Int) == 10) = false := by
                rw [beq_eq_false_iff_ne]
                intro e
                exact h10 (UInt8.toNat_inj.1 (by have hh : b.toNat = 10 := (by omega); simpa using hh))
              have hesc : esc (s.data.toList.take (i + 1)) = esc (s.data.toList.take i) ++ [b] := by rw [HTK.out, esc_snoc]; simp [h34]
              have hany : (s.data.toList.take (i + 1)).any odd = pl0 := by rw [HTK.out, List.any_append, ← HPL.out]; simp [odd, h44, h34, h13, h10]
              have HESC := Lib.hid hesc
              have HANY := Lib.hid hany
              clear hesc hany h44 h34 h13 h10
              have hm1 : L.length + 1 ≤ maxLen := by have := HNL.out; unfold maxLen; omega
              have hm2 : (L.length + 1) * 1 ≤ 140737488355328 := by have := HNL.out; omega
              have HSW : Hid (∀ o : Obj, B ≤ (wr.alloc o).heap.size) := fun o => (by have := HB.out; simp; omega)
              go_wp2_with (at_builtin; refine wpList_append_lies _ rfl _ _ 57 rfl B 5 i5 (.int .u8 0) 1 1 Tryd.underlying57 hi5 b0 b1 b2 rfl (by decide) _ _ _ rfl (World.ownsRow.alloc HO.out _) ⟨wr.heap.size, 0, none⟩ 1 1 [.int .u8 (b.toNat : Int)] rfl rfl (lit_cells wr _ _) (by intro u hu; simp at hu; subst hu; rfl) (by decide) hm1 hm2 (HSW.out _) (wr.heap.size + 1) (by simp) ?_)
              intro gE capE w5 hownE hgrE hwhE hltE
              have EO : Hid (Out w5 B (.slice (some ⟨gE, 0, none⟩) (L.length + 1) capE) (L ++ [b])) := Out.of hownE (by simp) (by simp [Lib.byteCells])
              have EW : Hid (Below B wr w5) := by
                have h1 : Below B wr (wr.alloc (.cells #[.int .u8 (b.toNat : Int)] 5)) := (Below.refl B wr).alloc HB.out _
                exact h1.grown hgrE (HSW.out _) (fun k hk => (World.ownsRow.lt HO.out k hk).1)
              have EB : Hid (B ≤ w5.heap.size) := Nat.le_trans HB.out EW.out.size
              clear hownE hgrE hwhE hltE hm1 hm2
              go_wp2
              go_roundw
              case rel =>
                have hfin : L ++ [b] = 34 :: esc (s.data.toList.take (i + 1)) := by rw [HL.out, HESC.out]; simp
                have hO := EO.out
                rw [hfin] at hO
                have hl : L.length + 1 = (34 :: esc (s.data.toList.take (i + 1))).length := by rw [← hfin]; simp
                rw [hl] at hO ⊢
                exact ⟨i + 1, _, _, pl0, by omega, by go_num, rfl, rfl, hO, (HBW.out.trans EW.out), HANY.out.symm⟩
              case measure => simp [intOf]; omega
    · have hie : i = s.size := by omega
      have htk : s.data.toList.take i = s.data.toList := List.take_of_length_le (by rw [HSZ.out]; omega)
      rw [htk] at HL HPL
      clear htk
      cases pl0 with
      | false =>
        have hw : (⟨(cellW s.data.toList).toArray⟩ : ByteArray) = s := by
          unfold cellW
          rw [← HPL.out]
          simp
        have HW := Lib.hid hw
        clear hw
        go_wp2
        go_ret
        exact ⟨by rw [HW.out]; rfl, HBW.out⟩
      | true =>
        have hw : cellW s.data.toList = L ++ [34] := by
          unfold cellW
          rw [← HPL.out, HL.out]
          simp
        have HW := Lib.hid hw
        clear hw
        have hm1 : L.length + 1 ≤ maxLen := by have := HNL.out; unfold maxLen; omega
        have hm2 : (L.length + 1) * 1 ≤ 140737488355328 := by have := HNL.out; omega
        have HSW : Hid (∀ o : Obj, B ≤ (wr.alloc o).heap.size) := fun o => (by have := HB.out; simp; omega)
        go_wp2_with (at_builtin; refine wpList_append_lies _ rfl _ _ 57 rfl B 5 i5 (.int .u8 0) 1 1 Tryd.underlying57 hi5 b0 b1 b2 rfl (by decide) _ _ _ rfl (World.ownsRow.alloc HO.out _) ⟨wr.heap.size, 0, none⟩ 1 1 [.int .u8 34] rfl rfl (lit_cells wr _ _) (by intro u hu; simp at hu; subst hu; rfl) (by decide) hm1 hm2 (HSW.out _) (wr.heap.size + 1) (by simp) ?_)
        intro gE capE w5 hownE hgrE hwhE hltE
        have EO : Hid (Out w5 B (.slice (some ⟨gE, 0, none⟩) (L.length + 1) capE) (L ++ [34])) := Out.of hownE (by simp) (by simp [Lib.byteCells])
        have EW : Hid (Below B wr w5) := by
          have h1 : Below B wr (wr.alloc (.cells #[.int .u8 34] 5)) := (Below.refl B wr).alloc HB.out _
          exact h1.grown hgrE (HSW.out _) (fun k hk => (World.ownsRow.lt HO.out k hk).1)
        have EB : Hid (B ≤ w5.heap.size) := Nat.le_trans HB.out EW.out.size
        clear hownE hgrE hwhE hltE hm1 hm2
        have hcv := run_str EO.out.inn.1 capE
        simp only [List.length_append, List.length_cons, List.length_nil, Nat.zero_add] at hcv
        have HBL : Hid (Below B w w5) := HBW.out.trans EW.out
        go_wp2
        go_ret
        exact ⟨by rw [HW.out]; rfl, HBL.out⟩
end Go.Proofs.YtkficmbkoinjjaaDoor
