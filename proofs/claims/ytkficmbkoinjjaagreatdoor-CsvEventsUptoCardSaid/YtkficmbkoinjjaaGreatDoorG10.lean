/- The document's own answer: an event as a row. -/
import Derived.Test.YtkficmbkoinjjaaGreatDoorE6
import Derived.Test.YtkficmbkoinjjaaGreatDoorG8
namespace Go.Proofs.YtkficmbkoinjjaaGreatDoor
open Go Go.RowKit
open V
set_option maxHeartbeats 4000000
set_option linter.unusedVariables false
set_option linter.unusedSimpArgs false
set_option maxRecDepth 100000 in
theorem refRow_any (nm : ByteArray) (p : Option Addr) (l : List (ByteArray × Int)) (c : Nat) (ty : ByteArray) (tm : Int) (q : Option Addr) (vl : List V4) (d : Nat) (w : World) (hA : AtRow w p l) (hV : ValRow w q vl) (hn : ∀ u ∈ vl, I64 u.n) (htm : I64 tm) (hl : l.length ≤ 100000000) (hm : vl.length ≤ 100000000) :
    Calls Tryz.prog 21 #[.agg #[.string nm, .slice p l.length c], .agg #[.string ty, .int .i64 tm, .slice q vl.length d]] w (RowIs2 w nm ty (kdL l) tm vl) := by
  obtain ⟨i9, hi9, s0, s1, s2⟩ := info_parts infoStr
  obtain ⟨n, hnn⟩ : ∃ n, n = vl.length := ⟨_, rfl⟩
  obtain ⟨m, hmm⟩ : ∃ m, m = l.length := ⟨_, rfl⟩
  have HN := Lib.hid hnn
  have HMM := Lib.hid hmm
  have HI := Lib.hid hn
  obtain ⟨w1, hw1⟩ : ∃ x, x = (w.alloc (Obj.cells #[.string nm, .slice p l.length c] 25)).alloc (Obj.cells #[.string ty, .int .i64 tm, .slice q vl.length d] 41) := ⟨_, rfl⟩
  have hb1 : Below w.heap.size w w1 := by rw [hw1]; exact ((Below.refl _ _).alloc (Nat.le_refl _) _).alloc (by simp) _
  have a0 : w1.cell? ⟨w.heap.size, 0, none⟩ = some (.string nm) := by rw [hw1]; simp [go_sem]
  have a1 : w1.cell? ⟨w.heap.size, 1, none⟩ = some (.slice p m c) := by rw [hw1, hmm]; simp [go_sem]
  have b0 : w1.cell? ⟨w.heap.size + 1, 0, none⟩ = some (.string ty) := by rw [hw1]; simp [go_sem]
  have b1 : w1.cell? ⟨w.heap.size + 1, 1, none⟩ = some (.int .i64 tm) := by rw [hw1]; simp [go_sem]
  have b2 : w1.cell? ⟨w.heap.size + 1, 2, none⟩ = some (.slice q n d) := by rw [hw1, hnn]; simp [go_sem]
  have hz1 : w.heap.size + 1 < w1.heap.size := by rw [hw1]; simp
  have HV0 := Lib.hid hV
  have HA0 := Lib.hid hA
  have HB1 := Lib.hid hb1
  rw [← hnn, ← hmm] at hw1
  rw [← hnn] at hm ⊢
  rw [← hmm] at hl ⊢
  have HW2 := Lib.hid hw1
  obtain ⟨g, hg⟩ : ∃ g, g = w.heap.size := ⟨_, rfl⟩
  have HG := Lib.hid hg
  rw [← hg] at a0 a1 b0 b1 b2 hz1
  have zg : g < w1.heap.size := by omega
  have HI64 := Lib.hid htm
  clear hA hV hn hnn hmm hb1 hw1 htm
  go_enter Tryz.func21, Tryz.ntmps21
  go_upto_region 1 with fail
  rw [← HW2.out, ← HG.out]
  clear hg
  by_cases hty : ty = nm
  case neg =>
    have dt : (ty.toList != nm.toList) = true := by
      simp only [bne_iff_ne, ne_eq]
      intro e
      exact hty (V.bytes_ext (by rw [← ByteArray.toList_eq, ← ByteArray.toList_eq]; exact e))
    have dt2 : (ty.toList == nm.toList) = false := by simpa [bne] using dt
    have HT := Lib.hid hty
    clear hty
    go_wp2
    go_ret2
    exact ⟨HB1.out, .inr ⟨fun h => HT.out h.1, 21, by decide, rfl, .inl ⟨HT.out, rfl⟩⟩⟩
  case pos =>
  subst hty
  have dt : (ty.toList != ty.toList) = false := by simp
  by_cases ht0 : tm < 0
  · have d0 : decide (tm < 0) = true := by simpa using ht0
    have HT := Lib.hid ht0
    clear ht0
    go_wp2
    go_ret2
    exact ⟨HB1.out, .inr ⟨fun h => (by have h1 := h.2.1.1; have h2 := HT.out; omega), 23, by decide, rfl, .inr (.inl ⟨rfl, fun h => (by have h1 := h.1; have h2 := HT.out; omega), rfl⟩)⟩⟩
  have d0 : decide (tm < 0) = false := by simpa using ht0
  by_cases ht1 : 4611686018427387904 < tm
  · have d1 : decide ((4611686018427387904 : Int) < tm) = true := by simpa using ht1
    have HT := Lib.hid ht1
    clear ht0 ht1
    go_wp2
    go_ret2
    exact ⟨HB1.out, .inr ⟨fun h => (by have h1 := h.2.1.2; have h2 := HT.out; omega), 23, by decide, rfl, .inr (.inl ⟨rfl, fun h => (by have h1 := h.2; have h2 := HT.out; omega), rfl⟩)⟩⟩
  have d1 : decide ((4611686018427387904 : Int) < tm) = false := by simpa using ht1
  have HTM : Hid (TmOk tm) := by show _ ∧ _; omega
  clear ht0 ht1
  by_cases hnm : n = m
  case neg =>
    have dn : ((n : Int) != (m : Int)) = true := by simp; omega
    have HNM := Lib.hid hnm
    clear hnm
    go_wp2
    go_ret2
    exact ⟨HB1.out, .inr ⟨fun h => HNM.out (by have := h.2.len; rw [HN.out, HMM.out, this]; simp [kdL]), 22, by decide, rfl, .inr (.inr (.inl ⟨rfl, HTM.out, fun h => HNM.out (by rw [HN.out, HMM.out, h]; simp [kdL]), rfl⟩))⟩⟩
  case pos =>
  subst hnm
  have dn : ((n : Int) != (n : Int)) = false := by simp
  have HLEN : Hid (vl.length = (kdL l).length) := by show _ = _; rw [← HN.out, HMM.out]; simp [kdL]
  obtain ⟨c0, hc0⟩ : ∃ c0 : ByteArray, c0.data.toList = cellV (numV tm) := ⟨⟨(cellV (numV tm)).toArray⟩, rfl⟩
  have hc0' : c0.data.toList = showT 1 tm ⟨#[]⟩ false := by rw [hc0]; unfold cellV numV; rw [if_neg (by simp)]
  have hW0 := show_rs 1 tm ⟨#[]⟩ false HI64.out c0 hc0' 0 (by unfold showE; rw [if_pos (by simp [valid, veq])]) w1
  have HC0 := Lib.hid hc0
  clear hc0 hc0'
  go_wp2_with fail
  refine hW0.mono ?_
  rintro e w3 ⟨rfl, hb3⟩
  have HB3 : Hid (Below w.heap.size w w3) := HB1.out.trans (hb3.mono HB1.out.size)
  have e1 := (hb3.cell (p := ⟨g, 1, none⟩) zg).trans a1
  have f2 := (hb3.cell (p := ⟨g + 1, 2, none⟩) hz1).trans b2
  have z3 : g + 1 < w3.heap.size := Nat.lt_of_lt_of_le hz1 hb3.size
  have z4 : g < w3.heap.size := by omega
  have HZ3 : Hid (w.heap.size ≤ w3.heap.size) := HB3.out.size
  have HOWN : Hid ((w3.alloc (.cells #[.string c0] 9)).ownsRow w3.heap.size 9 1 (.slice (some ⟨w3.heap.size, 0, none⟩) 1 1) 1 (strs (rowC tm (vl.take 0)))) := by
    have := World.ownsRow_lit (base := w3.heap.size) (e := 9) (size := 1) w3 #[.string c0] 1 (Nat.le_refl _) (by decide) rfl
    have e : strs (rowC tm (vl.take 0)) = [.string c0] := by
      simp only [rowC, List.take_zero, List.map_nil, strs, List.map_cons, ← HC0.out]
    rw [e]
    exact this
  clear hb3 hW0 a0 a1 b0 b1 b2 zg hz1
  obtain ⟨w4, hw4⟩ : ∃ x, x = w3.alloc (.cells #[.string c0] 9) := ⟨_, rfl⟩
  have hal : Below w3.heap.size w3 w4 := by rw [hw4]; exact (Below.refl _ _).alloc (Nat.le_refl _) _
  have HB4 : Hid (Below w.heap.size w w4) := HB3.out.trans (hal.mono HZ3.out)
  have HAL := Lib.hid hal
  obtain ⟨g3, hg3⟩ : ∃ g3, g3 = w3.heap.size := ⟨_, rfl⟩
  have HG3E := Lib.hid hg3
  have HG3 : Hid (w.heap.size ≤ g3) := by have := HZ3.out; show _ ≤ _; omega
  go_upto_region 9 with fail
  rw [← hw4, ← hg3] at HOWN ⊢
  clear hal hw4 hg3
  go_wp2
  go_loopw [8, 9] (fun rv iv wr => ∃ (k : Nat) (rp : Option Addr) (rc : Nat), k ≤ n ∧ iv = .int .i64 k ∧ rv = .slice rp (k + 1) rc ∧ Below w3.heap.size w3 wr ∧ wr.ownsRow w3.heap.size 9 1 (.slice rp (k + 1) rc) (k + 1) (strs (rowC tm (vl.take k))) ∧ FitsTo (kdL l) vl k) (fun _ iv _ => n - (intOf iv).toNat)
  case atStart => exact ⟨0, _, _, Nat.zero_le _, rfl, rfl, HAL.out, by rw [← HG3E.out]; exact HOWN.out, FitsTo.zero _ _⟩
  case round =>
    obtain ⟨k, rp, rc, hk, rfl, rfl, hbr, hown, hft⟩ := hrel
    have HBR := Lib.hid hbr
    have HBW : Hid (Below w.heap.size w wr) := HB3.out.trans (hbr.mono HB3.out.size)
    have HOW := Lib.hid hown
    have HFT := Lib.hid hft
    have c1 := (hbr.cell (p := ⟨g, 1, none⟩) z4).trans e1
    have c2 := (hbr.cell (p := ⟨g + 1, 2, none⟩) z3).trans f2
    have HZR : Hid (w.heap.size ≤ wr.heap.size ∧ w3.heap.size ≤ wr.heap.size) := ⟨HBW.out.size, hbr.size⟩
    have zr : g < wr.heap.size := Nat.lt_of_lt_of_le z4 hbr.size
    have zr1 : g + 1 < wr.heap.size := Nat.lt_of_lt_of_le z3 hbr.size
    clear hbr hown hft e1 f2 z3 z4
    by_cases hlt : k < n
    · obtain ⟨vk, vn, vs, vb, b, o, hvk, rfl, x0, x1, x2, x3⟩ := (HV0.out.below HBW.out).nth (k := k) (by rw [← HN.out]; exact hlt)
      obtain ⟨an, ak, b', o', hak, rfl, y0, y1⟩ := (HA0.out.below HBW.out).nth (k := k) (by rw [← HMM.out]; exact hlt)
      have HVK := Lib.hid hvk
      have HAK := Lib.hid (kdL_at hak)
      have HI4 : Hid (I64 vn) := HI.out _ (List.mem_of_getElem? hvk)
      have yb := lt_of_cell y0
      obtain ⟨sh, hsh⟩ : ∃ sh : ByteArray, sh.data.toList = showT vk vn vs vb := ⟨⟨(showT vk vn vs vb).toArray⟩, rfl⟩
      have HSH := Lib.hid hsh
      clear hvk hak hsh
      have hcs : (valid vk vn vs vb = false ∧ showE vk vn vs vb = 12) ∨ (valid vk vn vs vb = true ∧ showE vk vn vs vb = 0) := by
        unfold showE
        cases valid vk vn vs vb
        · exact .inl ⟨rfl, rfl⟩
        · exact .inr ⟨rfl, rfl⟩
      have HSW : Hid (∀ wx E, E = showE vk vn vs vb → Calls Tryz.prog 39 #[.agg #[.int .i64 vk, .int .i64 vn, .string vs, .bool vb]] wx fun e w' => e = .returned (.tuple #[.string sh, .int .i64 E]) ∧ Below wx.heap.size wx w') := fun wx E hE => show_rs vk vn vs vb HI4.out sh HSH.out E hE wx
      rcases hcs with ⟨hvl, hE⟩ | ⟨hvl, hE⟩
      · have HVL := Lib.hid hvl
        have HE := Lib.hid hE
        clear hvl hE
        go_wp2_with fail
        refine (HSW.out _ 12 HE.out.symm).mono ?_
        rintro e w5 ⟨rfl, hb5⟩
        have HB5 : Hid (Below w.heap.size w w5) := (HBW.out.alloc HZR.out.1 _).trans (hb5.mono (by have := HZR.out.1; simp; omega))
        clear hb5 x0 x1 x2 x3 y0 y1 c1 c2
        go_wp2
        go_ret2
        have hno : ¬ Ok4 ⟨vk, vn, vs, vb⟩ := fun h => by have := h.1; simp only at this; rw [HVL.out] at this; cases this
        exact ⟨HB5.out, .inr ⟨fun h => hno (h.2.at HVK.out).1, 12, by decide, rfl, .inr (.inr (.inr (.inr ⟨rfl, HTM.out, HLEN.out, k, _, HFT.out, HVK.out, .inl ⟨hno, rfl⟩⟩)))⟩⟩
      · have HVL := Lib.hid hvl
        have HE := Lib.hid hE
        have HOK : Hid (Ok4 ⟨vk, vn, vs, vb⟩) := ⟨hvl, HI4.out⟩
        clear hvl hE
        go_wp2_with fail
        refine (HSW.out _ 0 HE.out.symm).mono ?_
        rintro e w5 ⟨rfl, hb5⟩
        have hbx : Below wr.heap.size wr w5 := ((Below.refl _ _).alloc (Nat.le_refl _) _).trans (hb5.mono (by simp))
        obtain ⟨hc5, hf5⟩ := bcell hb5
        have hz5 : wr.heap.size < w5.heap.size := by have := hb5.size; simp at this; omega
        have u0 : w5.cell? ⟨wr.heap.size, 0, none⟩ = some (.int .i64 vk) := by rw [hc5 _ _ (by simp)]; simp [go_sem]
        have u2 : w5.cell? ⟨wr.heap.size, 2, none⟩ = some (.string vs) := by rw [hc5 _ _ (by simp)]; simp [go_sem]
        have q1 := (hbx.cell (p := ⟨b', o' + k * 2 + 1, none⟩) yb).trans y1
        have q2 := (hbx.cell (p := ⟨g, 1, none⟩) zr).trans c1
        have HB5 : Hid (Below w3.heap.size w3 w5) := HBR.out.trans (hbx.mono HZR.out.2)
        have HB5w : Hid (Below w.heap.size w w5) := HBW.out.trans (hbx.mono HZR.out.1)
        have HO5 : Hid (w5.ownsRow w3.heap.size 9 1 (.slice rp (k + 1) rc) (k + 1) (strs (rowC tm (vl.take k)))) := own_kept_any HOW.out hbx
        have HZ5 : Hid (∀ o : Obj, w3.heap.size ≤ (w5.alloc o).heap.size) := fun o => (by have := HB5.out.size; simp; omega)
        obtain ⟨gv, hgv⟩ : ∃ gv, gv = wr.heap.size := ⟨_, rfl⟩
        have HGV := Lib.hid hgv
        rw [← hgv] at u0 u2 hz5
        clear hb5 hbx hc5 hf5 x0 x1 x2 x3 y0 y1 c1 c2
        go_upto_region 16 with fail
        rw [← HGV.out]
        clear hgv
        by_cases hka : vk = ak
        case neg =>
          have dk : (vk != ak) = true := by simpa using hka
          have HKA := Lib.hid hka
          clear hka
          go_region
          go_wp2
          go_ret2
          have hno : (kdL l)[k]? ≠ some vk := fun h => by rw [HAK.out] at h; exact HKA.out (Option.some.inj h).symm
          exact ⟨by repeat (first | exact HB5w.out | apply Below.drew), .inr ⟨fun h => hno (h.2.at HVK.out).2, 10, by decide, rfl, .inr (.inr (.inr (.inr ⟨rfl, HTM.out, HLEN.out, k, _, HFT.out, HVK.out, .inr ⟨HOK.out, hno, rfl⟩⟩)))⟩⟩
        case pos =>
        subst hka
        have dk : (vk != vk) = false := by simp
        have hm1 : k + 1 + 1 ≤ maxLen := by unfold maxLen; omega
        have hm2 : (k + 1 + 1) * 16 ≤ 140737488355328 := by omega
        have HFT2 := Lib.hid (HFT.out.step HVK.out HAK.out HOK.out)
        have FIN : Hid (∀ (cc : ByteArray) (ga capa : Nat) (wa : World), cc.data.toList = cellV ⟨vk, vn, vs, vb⟩ → wa.ownsRow w3.heap.size 9 1 (.slice (some ⟨ga, 0, none⟩) (k + 1 + 1) capa) (k + 1 + 1) (strs (rowC tm (vl.take k)) ++ [.string cc]) → wa.ownsRow w3.heap.size 9 1 (.slice (some ⟨ga, 0, none⟩) (k + 1 + 1) capa) (k + 1 + 1) (strs (rowC tm (vl.take (k + 1))))) := fun cc ga capa wa hcc h => by
          rw [rowC_take HVK.out, ← strs_snoc, ← hcc]
          exact h
        by_cases h2 : vk = 2
        · subst h2
          have HCC : Hid (vs.data.toList = cellV ⟨2, vn, vs, vb⟩) := by show _ = _; unfold cellV; simp
          skip
          go_region
          go_wp2_with (at_builtin; refine wpList_append_lies _ rfl _ _ 22 rfl w3.heap.size 9 i9 (.string ⟨#[]⟩) 1 16 Tryz.underlying22 hi9 s0 s1 s2 rfl (by decide) _ _ _ rfl (World.ownsRow.alloc (World.ownsRow.drew HO5.out) _) ⟨w5.drew.heap.size, 0, none⟩ 1 1 [.string vs] rfl rfl (lit_cells w5.drew _ _) (by intro u hu; simp at hu; subst hu; rfl) (by decide) hm1 hm2 (HZ5.out _) (w5.drew.heap.size + 1) (by simp) ?_)
          intro ga capa wa owna hgra hwha hlta
          have hal : Below w5.heap.size w5 (w5.drew.alloc (.cells #[.string vs] 9)) := ((Below.refl _ _).drew).alloc (Nat.le_refl _) _
          have HBa : Hid (Below w3.heap.size w3 wa) := (HB5.out.trans (hal.mono HB5.out.size)).grown hgra (by have := HB5.out.size; simp; omega) (fun x hx => (World.ownsRow.lt HO5.out x hx).1)
          have HOa := Lib.hid (FIN.out vs ga capa wa HCC.out owna)
          clear owna hgra hwha hlta hal
          go_wp2
          go_roundw
          case rel => exact ⟨k + 1, _, _, by omega, by go_num, rfl, HBa.out, HOa.out, HFT2.out⟩
          case measure => simp [intOf]; omega
        · have d2 : (vk == 2) = false := by simpa using h2
          have HCC : Hid (sh.data.toList = cellV ⟨vk, vn, vs, vb⟩) := by
            show _ = _
            unfold cellV
            simp only
            rw [if_neg h2]
            exact HSH.out
          clear h2
          go_region
          go_wp2_with (at_builtin; refine wpList_append_lies _ rfl _ _ 22 rfl w3.heap.size 9 i9 (.string ⟨#[]⟩) 1 16 Tryz.underlying22 hi9 s0 s1 s2 rfl (by decide) _ _ _ rfl (World.ownsRow.alloc (World.ownsRow.drew HO5.out) _) ⟨w5.drew.heap.size, 0, none⟩ 1 1 [.string sh] rfl rfl (lit_cells w5.drew _ _) (by intro u hu; simp at hu; subst hu; rfl) (by decide) hm1 hm2 (HZ5.out _) (w5.drew.heap.size + 1) (by simp) ?_)
          intro ga capa wa owna hgra hwha hlta
          have hal : Below w5.heap.size w5 (w5.drew.alloc (.cells #[.string sh] 9)) := ((Below.refl _ _).drew).alloc (Nat.le_refl _) _
          have HBa : Hid (Below w3.heap.size w3 wa) := (HB5.out.trans (hal.mono HB5.out.size)).grown hgra (by have := HB5.out.size; simp; omega) (fun x hx => (World.ownsRow.lt HO5.out x hx).1)
          have HOa := Lib.hid (FIN.out sh ga capa wa HCC.out owna)
          clear owna hgra hwha hlta hal
          go_wp2
          go_roundw
          case rel => exact ⟨k + 1, _, _, by omega, by go_num, rfl, HBa.out, HOa.out, HFT2.out⟩
          case measure => simp [intOf]; omega
    · have hkn : k = n := by omega
      subst hkn
      have hfit : Fits (kdL l) tm vl := FitsTo.all (by rw [← HN.out]; exact HFT.out) HLEN.out HTM.out
      have HFIT := Lib.hid hfit
      clear hfit
      go_wp2
      go_ret2
      refine ⟨HBW.out, .inl ⟨rfl, HFIT.out, _, rfl, ?_⟩⟩
      have e1' : vl.take k = vl := by rw [HN.out, List.take_length]
      have := HOW.out
      rw [e1'] at this
      unfold OutS
      rw [rowC_len, ← HN.out]
      exact own_base this HZ3.out
end Go.Proofs.YtkficmbkoinjjaaGreatDoor
