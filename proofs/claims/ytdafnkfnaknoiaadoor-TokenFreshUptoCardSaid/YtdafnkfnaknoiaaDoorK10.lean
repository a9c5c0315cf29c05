/- The walk of the law TokenFresh. Rows of texts that are handed in: what lies there, and how much of it there is. -/
import Derived.Test.YtdafnkfnaknoiaaDoorT31
import Derived.Test.YtdafnkfnaknoiaaDoorV5
namespace Go.Proofs.YtdafnkfnaknoiaaDoor
open Go Go.RowKit
set_option maxHeartbeats 8000000
set_option linter.unusedVariables false
set_option linter.unusedSimpArgs false
/-- texts that are handed in -/
def TxtAt (w : World) (p : Option Addr) (len : Nat) : Prop := ∀ i, i < len → ∃ (b o : Nat) (T : ByteArray), p = some ⟨b, o, none⟩ ∧ w.cell? ⟨b, o + i, none⟩ = some (.string T) ∧ T.size ≤ 140737488355328
set_option maxRecDepth 100000 in
theorem fresh_walk (p : Option Addr) (len cap : Nat) (w : World) (he : Errs w) (hw : Wd w) (hlen : len ≤ 1048576) (hO : TxtAt w p len) : Calls Tryd.prog 7 #[.slice p len cap] w fun e w' => e = .returned (.bool true) ∧ Below w.heap.size w w' := by
  have HBG : Hid (Calls Tryd.prog 14 #[] w fun e w' => e = .returned (.bool true) ∧ Below w.heap.size w w') := begun_any w he hw
  have HSC : Hid (∀ wx (T : ByteArray), Below w.heap.size w wx → T.size ≤ 140737488355328 → Calls Tryd.prog 15 #[.string T] wx (TwoPost wx)) := fun wx T hx hT => scanned_any T wx (he.below hx) hT
  have HO := Lib.hid hO
  have v1 : (len : Int) ≤ 1048576 := by omega
  clear he hw hO
  go_enter Tryd.func7, Tryd.ntmps7
  go_wp2_with fail
  refine HBG.out.mono ?_
  rintro e w1 ⟨rfl, hb1⟩
  have HB1 := Lib.hid hb1
  clear hb1 HBG
  go_upto_region 4 with fail
  obtain ⟨B, hB⟩ : ∃ B, B = w.heap.size := ⟨_, rfl⟩
  obtain ⟨hb, hhb⟩ : ∃ hb, hb = w1.heap.size := ⟨_, rfl⟩
  have hbk : Bk (w1.alloc (.cells #[.slice none 0 0, .int .i64 0] 43)) B hb (.slice none 0 0) 0 [] := by rw [hhb]; exact Bk.fresh w1 B (by rw [hB]; exact HB1.out.size)
  have hbl : Below B w (w1.alloc (.cells #[.slice none 0 0, .int .i64 0] 43)) := by rw [hB]; exact HB1.out.alloc HB1.out.size _
  obtain ⟨wa, hwa⟩ : ∃ wa, wa = w1.alloc (.cells #[.slice none 0 0, .int .i64 0] 43) := ⟨_, rfl⟩
  rw [← hwa] at hbk hbl
  rw [← hhb, ← hwa]
  have HBK := Lib.hid hbk
  have HBL := Lib.hid hbl
  have HB := Lib.hid hB
  clear hwa hhb hbk hbl hB HB1
  have HSC2 : Hid (∀ wx (T : ByteArray), Below B w wx → T.size ≤ 140737488355328 → Calls Tryd.prog 15 #[.string T] wx (TwoPost wx)) := fun wx T hx hT => HSC.out wx T (by rw [← show B = _ from HB.out]; exact hx) hT
  have HTX : Hid (∀ i, i < len → ∃ (b o : Nat) (T : ByteArray), p = some ⟨b, o, none⟩ ∧ T.size ≤ 140737488355328 ∧ ∀ wx, Below B w wx → wx.cell? ⟨b, o + i, none⟩ = some (.string T)) := fun i hi => by
    obtain ⟨b, o, T, h1, h2, h3⟩ := HO.out i hi
    refine ⟨b, o, T, h1, h3, fun wx hx => (hx.cell (p := ⟨b, o + i, none⟩) ?_).trans h2⟩
    rw [show B = _ from HB.out]
    exact lt_of_cell h2
  clear HSC HO
  go_wp2
  go_loopw [4] (fun iv wr => ∃ (i : Nat) (v : Value) (m : Int) (es : List Value), iv = .int .i64 i ∧ i ≤ len ∧ Bk wr B hb v m es ∧ Below B w wr ∧ 0 ≤ m ∧ m ≤ (i : Int) * 6000000 ∧ es.length ≤ 2 * i ∧ es.length % 2 = 0) (fun iv _ => len - (intOf iv).toNat)
  case atStart => exact ⟨0, _, _, _, rfl, Nat.zero_le _, HBK.out, HBL.out, Int.le_refl _, by simp, by simp, rfl⟩
  case round =>
    clear HBK HBL
    obtain ⟨i, v, m, es, rfl, hi, hbk, hbl, hm0, hm1, hel, hev⟩ := hrel
    have HBK := Lib.hid hbk
    have HBL := Lib.hid hbl
    have HM := Lib.hid (And.intro hm0 (And.intro hm1 (And.intro hel hev)))
    clear hbk hbl hm0 hm1 hel hev
    by_cases hlt : i < len
    · obtain ⟨b, o, T, rfl, hT, hc⟩ := HTX.out i hlt
      have c0 := hc wr HBL.out
      have v2 : (i : Int) < (len : Int) := by omega
      have HHT := Lib.hid hT
      clear hc hT
      have hBs : B ≤ wr.heap.size := by have := (Array.getElem?_eq_some_iff.1 HBK.out.blk).1; have := HBK.out.lo; omega
      have HBS := Lib.hid hBs
      clear hBs
      go_wp2_with fail
      refine (HSC2.out wr T HBL.out HHT.out).mono ?_
      rintro e w2 ⟨hb2, L, p1, q1, c1, d1, rfl, hL, ho1, ho2⟩
      have HB2 : Hid (Below B w w2) := HBL.out.trans (hb2.mono HBS.out)
      have hsz2 := hb2.size
      have HTK : Hid (Calls Tryd.prog 16 #[.pointer (some ⟨hb, 0, none⟩), .slice p1 L.length c1] w2 fun e w' => e = .returned (.tuple #[]) ∧ ∃ (v' : Value) (m' : Int) (es' : List Value), Bk w' B hb v' m' es' ∧ Below B w w' ∧ 0 ≤ m' ∧ m' ≤ ((i + 1 : Nat) : Int) * 6000000 ∧ es'.length ≤ 2 * (i + 1) ∧ es'.length % 2 = 0) := by
        obtain ⟨x1, x2, x3, x4⟩ := HM.out
        refine (btake_any B hb v m es p1 L.length c1 (tkCells L) w2 (HBK.out.below hb2) (Nat.le_trans HBS.out hsz2) (Joins.ownsRow_le ho1 HBS.out) hL (fun x hx => ⟨HBK.out.ne_hb.1 x hx, fun g hg e => ?_⟩) x1 (by omega) (by omega) x4).mono ?_
        · have h1 := HBK.out.es_lt x hx g hg
          have h2 := (ho1.lt g e).1
          omega
        · rintro e w3 ⟨rfl, v', m', es', y1, y2, _, y4, y5, y6, y7, _, _⟩
          exact ⟨rfl, v', m', es', y1, HB2.out.trans y2, y4, by rw [Int.natCast_add]; omega, by omega, y7⟩
      clear hb2 hL ho1 ho2 hsz2
      go_wp2_with fail
      refine HTK.out.mono ?_
      rintro e w3 ⟨rfl, v', m', es', y1, y2, y3, y4, y5, y6⟩
      have HW : Hid (Calls Tryd.prog 17 #[.pointer (some ⟨hb, 0, none⟩)] w3 fun e w' => e = .returned (.bool true) ∧ Below w3.heap.size w3 w') := whole_any B hb v' m' es' w3 y1 (by omega)
      have HY1 := Lib.hid y1
      have HY2 := Lib.hid y2
      have HY := Lib.hid (And.intro y3 (And.intro y4 (And.intro y5 y6)))
      clear y1 y2 y3 y4 y5 y6 HTK
      go_wp2_with (go_at_call 17; refine HW.out.mono ?_; rintro e w4 ⟨rfl, hb4⟩; have HZ1 := Lib.hid (HY1.out.below hb4); have HZ2 : Hid (Below B w w4) := HY2.out.trans (hb4.mono (by have := (Array.getElem?_eq_some_iff.1 HY1.out.blk).1; have := HY1.out.lo; omega)))
      · go_roundw
        case rel => exact ⟨i + 1, v', m', es', by go_num, by omega, HZ1.out, HZ2.out, HY.out.1, HY.out.2.1, HY.out.2.2.1, HY.out.2.2.2⟩
        case measure => simp [intOf]; omega
      · go_roundw
        case rel => exact ⟨i + 1, v', m', es', by go_num, by omega, HY1.out, HY2.out, HY.out.1, HY.out.2.1, HY.out.2.2.1, HY.out.2.2.2⟩
        case measure => simp [intOf]; omega
    · have v2 : ¬ (i : Int) < (len : Int) := by omega
      have d2 : decide (i < len) = false := by simp; omega
      have hil : i = len := by omega
      have HMB : Hid (0 ≤ m ∧ m ≤ 6291456000000 ∧ es.length ≤ 2097152 ∧ es.length % 2 = 0) := by
        obtain ⟨x1, x2, x3, x4⟩ := HM.out
        exact ⟨x1, by omega, by omega, x4⟩
      clear HM hlt hil hi
      go_upto_region 17 with fail
      obtain ⟨hc, hhc⟩ : ∃ hc, hc = wr.heap.size := ⟨_, rfl⟩
      obtain ⟨hd, hhd⟩ : ∃ hd, hd = wr.heap.size + 1 := ⟨_, rfl⟩
      have hBs : B ≤ wr.heap.size := by have := (Array.getElem?_eq_some_iff.1 HBK.out.blk).1; have := HBK.out.lo; omega
      have hhbl : hb < wr.heap.size := (Array.getElem?_eq_some_iff.1 HBK.out.blk).1
      obtain ⟨ws, hws⟩ : ∃ ws, ws = (wr.alloc (.cells #[.slice none 0 0, .int .i64 0] 43)).alloc (.cells #[.slice none 0 0, .int .i64 0] 43) := ⟨_, rfl⟩
      have hb1 : Below wr.heap.size wr (wr.alloc (.cells #[.slice none 0 0, .int .i64 0] 43)) := (Below.refl _ _).alloc (Nat.le_refl _) _
      have hbs1 : Below (wr.alloc (.cells #[.slice none 0 0, .int .i64 0] 43)).heap.size (wr.alloc (.cells #[.slice none 0 0, .int .i64 0] 43)) ws := by rw [hws]; exact (Below.refl _ _).alloc (Nat.le_refl _) _
      have hkb := (HBK.out.below hb1).below hbs1
      have hkc : Bk ws B hc (.slice none 0 0) 0 [] := by rw [hhc]; exact (Bk.fresh wr B hBs).below hbs1
      have hkd : Bk ws B hd (.slice none 0 0) 0 [] := by
        have := Bk.fresh (wr.alloc (.cells #[.slice none 0 0, .int .i64 0] 43)) B (by simp; omega)
        rw [hws, hhd]
        simpa using this
      have hbw : Below B w ws := (HBL.out.trans (hb1.mono hBs)).trans (hbs1.mono (by simp; omega))
      have hne1 : hb ≠ hc := by omega
      have hne2 : hb ≠ hd := by omega
      have hne3 : hc ≠ hd := by omega
      rw [← hws]
      first | rw [← hhd] | skip
      rw [← hhc]
      have HKB := Lib.hid hkb
      have HKC := Lib.hid hkc
      have HKD := Lib.hid hkd
      have HBW := Lib.hid hbw
      have HHB : Hid (B ≤ hb) := HBK.out.lo
      clear hws hb1 hbs1 hkb hkc hkd hbw hhc hhd hBs hhbl HBK HBL
      go_loopw [8, 9, 12] (fun gv hv iv wx => ∃ (j : Nat) (mD : Int) (gs hs : List Value), iv = .int .i64 j ∧ j ≤ 2 * len ∧ Gt wx B gv hv gs hs v es ∧ Bk wx B hb v m es ∧ Bk wx B hc (.slice none 0 0) 0 [] ∧ Bk wx B hd (.slice none 0 0) mD [] ∧ Below B w wx ∧ 0 ≤ mD ∧ mD ≤ (j : Int) * 500000 ∧ gs.length ≤ j) (fun _ _ iv _ => 2 * len - (intOf iv).toNat)
      case atStart => exact ⟨0, 0, [], [], rfl, Nat.zero_le _, Gt.nil, HKB.out, HKC.out, HKD.out, HBW.out, Int.le_refl _, by simp, Nat.le_refl _⟩
      case round =>
        clear HKB HKC HKD HBW v2 d2
        obtain ⟨j, mD, gs, hs, rfl, hj, hgt, hkb, hkc, hkd, hbw, hd0, hd1, hgl⟩ := hrel
        have HGT := Lib.hid hgt
        have HKB := Lib.hid hkb
        have HKC := Lib.hid hkc
        have HKD := Lib.hid hkd
        have HBW := Lib.hid hbw
        have HMD := Lib.hid (And.intro hd0 (And.intro hd1 hgl))
        clear hgt hkb hkc hkd hbw hd0 hd1 hgl
        by_cases hjl : j < 2 * len
        · have v3 : (j : Int) < 2 * (len : Int) := by omega
          have hq : Int.tdiv (j : Int) 2 = ((j / 2 : Nat) : Int) := by rw [Int.tdiv_eq_ediv_of_nonneg (by omega)]; omega
          obtain ⟨q, hqq⟩ : ∃ q, q = j / 2 := ⟨_, rfl⟩
          rw [← hqq] at hq
          have hql : q < len := by omega
          have v4 : (q : Int) < (len : Int) := by omega
          obtain ⟨b, o, T, rfl, hT, hcT⟩ := HTX.out q hql
          have c0 := hcT wr HBW.out
          have HHT := Lib.hid hT
          have hBs : B ≤ wr.heap.size := by have := (Array.getElem?_eq_some_iff.1 HKB.out.blk).1; have := HKB.out.lo; omega
          have HBS := Lib.hid hBs
          have HQQ := Lib.hid hqq
          clear hcT hT hqq hBs
          go_wp2_with fail
          refine (HSC2.out wr T HBW.out HHT.out).mono ?_
          rintro e w2 ⟨hb2, L, p1, q1, c1, d1, rfl, hL, ho1, ho2⟩
          have HB2 : Hid (Below B w w2) := HBW.out.trans (hb2.mono HBS.out)
          have hsz2 := hb2.size
          obtain ⟨m2, hm2⟩ : ∃ m2, m2 = mD + 400 + 100 * (L.length : Int) := ⟨_, rfl⟩
          obtain ⟨nL, hnL⟩ : ∃ nL, nL = L.length := ⟨_, rfl⟩
          obtain ⟨bo, hbo⟩ : ∃ bo, decide (33554432 < m2) = bo := ⟨_, rfl⟩
          obtain ⟨w3, hw3⟩ : ∃ w3, w3 = w2.setCell ⟨hd, 1, none⟩ (.int .i64 m2) := ⟨_, rfl⟩
          have hkd2 := HKD.out.below hb2
          have HOV : Hid (Calls Tryd.prog 18 #[.pointer (some ⟨hd, 0, none⟩), .int .i64 (100 * (nL : Int))] w2 fun e w' => e = .returned (.bool bo) ∧ w' = w3) := by
            rw [← hbo, hw3, hm2, hnL]
            obtain ⟨x1, x2, x3⟩ := HMD.out
            exact over_any B hd _ mD _ [] w2 hkd2 x1 (by omega) (by omega) (by omega)
          have HGT3 : Hid (Gt w3 B u8 u9 gs hs v es) := by rw [hw3]; exact (HGT.out.below hb2).set hkd2.blk _
          have HKB3 : Hid (Bk w3 B hb v m es) := by rw [hw3]; exact (HKB.out.below hb2).setOther hkd2.blk hne2 _
          have HKC3 : Hid (Bk w3 B hc (.slice none 0 0) 0 []) := by rw [hw3]; exact (HKC.out.below hb2).setOther hkd2.blk hne3 _
          have HKD3 : Hid (Bk w3 B hd (.slice none 0 0) m2 []) := by rw [hw3]; exact hkd2.much m2
          have HB3 : Hid (Below B w w3) := by rw [hw3]; exact HB2.out.setCell hkd2.lo _
          have hoth : ∀ g, g ≠ hd → w3.heap[g]? = w2.heap[g]? := fun g hg => by rw [hw3]; exact heap_setCell_other w2 ⟨hd, 1, none⟩ g _ hg
          have k3 : ∀ {v : Value} {n : Nat} {xs : List Value}, w2.ownsRow wr.heap.size 28 3 v n xs → w3.ownsRow wr.heap.size 28 3 v n xs := fun hx => own_keepT hx (fun g hg => by
            obtain ⟨cur, hc'⟩ := own_type hx hg
            exact hoth g (block_ne hc' hkd2.blk (by decide)))
          have HO1 := Lib.hid (k3 ho1)
          have HO2 := Lib.hid (k3 ho2)
          have HS3 : Hid (wr.heap.size ≤ w3.heap.size) := by rw [hw3]; show _ ≤ _; simpa using hsz2
          have HLL := Lib.hid hL
          have HNL := Lib.hid hnL
          have HMD2 : Hid (0 ≤ m2 ∧ m2 ≤ ((j + 1 : Nat) : Int) * 500000) := by
            obtain ⟨x1, x2, x3⟩ := HMD.out
            exact ⟨by omega, by rw [Int.natCast_add]; omega⟩
          rw [← hnL]
          have hvL : (nL : Int) ≤ 4097 := by omega
          clear hb2 hL ho1 ho2 hsz2 hm2 hnL hbo hw3 hkd2 hoth k3
          go_wp2_with fail
          refine HOV.out.mono ?_
          rintro e w' ⟨rfl, hw'⟩
          obtain rfl := hw'.symm
          clear HOV
          cases bo
          · obtain ⟨j0, hj0, hy0, hy1, hy2⟩ := info_parts info23
            have hgn : gs.length ≤ 2097152 := by have := HMD.out.2.2; omega
            have hm4 : gs.length + 1 ≤ maxLen := by unfold maxLen; omega
            have hm5 : (gs.length + 1) * 24 ≤ 140737488355328 := by omega
            have hB3 : B ≤ w3.heap.size := Nat.le_trans HBS.out HS3.out
            have hB3o := fun o : Obj => Nat.le_trans hB3 (show w3.heap.size ≤ (w3.alloc o).heap.size by simp)
            have hgo := HGT3.out.gown
            go_wp2_with (at_builtin; refine wpList_append_lies _ rfl _ _ 41 rfl B 23 j0 (.slice none 0 0) 1 24 Tryd.underlying41 hj0 hy0 hy1 hy2 rfl (by decide) u8 gs.length gs rfl (World.ownsRow.alloc hgo _) ⟨w3.heap.size, 0, none⟩ 1 1 [.slice p1 nL c1] rfl rfl (fun j u h => lit_at w3 _ rfl _ _ j u h) (by intro u hu; rw [List.mem_singleton] at hu; subst hu; rfl) (by decide) hm4 hm5 (hB3o _) (w3.heap.size + 1) (by simp) ?_)
            intro g4 c4 w4 hown4 hgr4 hwh4 hlt4
            obtain ⟨k4, s4, hH4⟩ := HGT3.out.first (o := .cells #[.slice p1 nL c1] 23) rfl hgr4
            have hB4 : B ≤ w4.heap.size := by omega
            have hB4o := fun o : Obj => Nat.le_trans hB4 (show w4.heap.size ≤ (w4.alloc o).heap.size by simp)
            go_wp2_with (at_builtin; refine wpList_append_lies _ rfl _ _ 41 rfl B 23 j0 (.slice none 0 0) 1 24 Tryd.underlying41 hj0 hy0 hy1 hy2 rfl (by decide) u9 gs.length hs rfl (World.ownsRow.alloc hH4 _) ⟨w4.heap.size, 0, none⟩ 1 1 [.slice q1 nL d1] rfl rfl (fun j u h => lit_at w4 _ rfl _ _ j u h) (by intro u hu; rw [List.mem_singleton] at hu; subst hu; rfl) (by decide) hm4 hm5 (hB4o _) (w4.heap.size + 1) (by simp) ?_)
            intro g5 c5 w5 hown5 hgr5 hwh5 hlt5
            have hnLL : nL = L.length := HNL.out
            have hfin := HGT3.out.both hB3 (o := .cells #[.slice p1 nL c1] 23) (o' := .cells #[.slice q1 nL d1] 23) rfl ((Below.refl B w3).alloc hB3 _) hgr4 L p1 q1 c1 d1 (by rw [← hnLL]; exact hown4) hwh4 rfl ((Below.refl B w4).alloc hB4 _) hgr5 (by rw [← hnLL]; exact hown5) hwh5 wr.heap.size HS3.out HLL.out (Joins.ownsRow_le HO1.out HBS.out) (Joins.ownsRow_le HO2.out HBS.out) (fun g hg => (HO1.out.lt g hg).1) HGT.out.gs_lt HKB.out.es_lt (fun g hg => (HKB3.out.own.lt g hg).2)
            obtain ⟨hgt5, hbl5, k5⟩ := hfin
            have keepB : ∀ (b : Nat), b < w3.heap.size → (∃ cs t, w3.heap[b]? = some (Obj.cells cs t (0, 0)) ∧ t ≠ 23) → w5.heap[b]? = w3.heap[b]? := fun b hb1 ⟨cs, t, h1, h2⟩ => k5 b hb1 (fun e => by
              obtain ⟨cur, hc'⟩ := own_type HGT3.out.gown e
              exact block_ne h1 hc' h2 rfl) (fun e => by
              obtain ⟨cur, hc'⟩ := own_type HGT3.out.hown e
              exact block_ne h1 hc' h2 rfl)
            have HKB5 : Hid (Bk w5 B hb v m es) := HKB3.out.keep (fun g hg1 hg2 => by
              rcases hg2 with rfl | hg2 | ⟨x, hx, hg2⟩
              · exact keepB _ hg1 ⟨_, 43, HKB3.out.blk, by decide⟩
              · exact k5 g hg1 (HGT3.out.vg g hg2).1 (HGT3.out.vg g hg2).2
              · obtain ⟨cur, hc'⟩ := HKB3.out.kind x hx g hg2
                exact keepB g hg1 ⟨cur, 28, hc', by decide⟩)
            have HKC5 : Hid (Bk w5 B hc (.slice none 0 0) 0 []) := HKC3.out.keep (fun g hg1 hg2 => by
              rcases hg2 with rfl | hg2 | ⟨x, hx, hg2⟩
              · exact keepB _ hg1 ⟨_, 43, HKC3.out.blk, by decide⟩
              · cases hg2
              · cases hx)
            have HKD5 : Hid (Bk w5 B hd (.slice none 0 0) m2 []) := HKD3.out.keep (fun g hg1 hg2 => by
              rcases hg2 with rfl | hg2 | ⟨x, hx, hg2⟩
              · exact keepB _ hg1 ⟨_, 43, HKD3.out.blk, by decide⟩
              · cases hg2
              · cases hx)
            have hgl5 : (gs ++ [Value.slice p1 L.length c1]).length = gs.length + 1 := by simp
            have HGT5 : Hid (Gt w5 B (.slice (some ⟨g4, 0, none⟩) (gs.length + 1) c4) (.slice (some ⟨g5, 0, none⟩) (gs.length + 1) c5) (gs ++ [.slice p1 L.length c1]) (hs ++ [.slice q1 L.length d1]) v es) := hgt5
            have HB5 : Hid (Below B w w5) := HB3.out.trans hbl5
            clear k4 s4 hH4 hB4 hB4o hown4 hgr4 hwh4 hlt4 hown5 hgr5 hwh5 hlt5 hnLL hgt5 hbl5 k5 keepB hgo
            go_wp2
            go_roundw
            case rel => exact ⟨j + 1, m2, _, _, by go_num, by omega, HGT5.out, HKB5.out, HKC5.out, HKD5.out, HB5.out, HMD2.out.1, HMD2.out.2, by have := HMD.out.2.2; omega⟩
            case measure => simp [intOf]; omega
          · go_wp2
            go_roundw
            case rel => exact ⟨j + 1, m2, gs, hs, by go_num, by omega, HGT3.out, HKB3.out, HKC3.out, HKD3.out, HB3.out, HMD2.out.1, HMD2.out.2, by have := HMD.out.2.2; omega⟩
            case measure => simp [intOf]; omega
        · have v3 : ¬ (j : Int) < 2 * (len : Int) := by omega
          have d3 : decide ((j : Int) < 2 * (len : Int)) = false := by simp; omega
          have hgn : gs.length ≤ 2097152 := by have := HMD.out.2.2; omega
          obtain ⟨pG, cG, rfl⟩ : ∃ pG cG, u8 = .slice pG gs.length cG := by
            rcases HGT.out.gown.2 with ⟨e, e0⟩ | ⟨g, cp, cur, e, _⟩
            · exact ⟨none, 0, by rw [e, e0]⟩
            · exact ⟨_, _, e⟩
          obtain ⟨pH, cH, rfl⟩ : ∃ pH cH, u9 = .slice pH gs.length cH := by
            rcases HGT.out.hown.2 with ⟨e, e0⟩ | ⟨g, cp, cur, e, _⟩
            · exact ⟨none, 0, by rw [e, e0]⟩
            · exact ⟨_, _, e⟩
          obtain ⟨n, hn⟩ : ∃ n, n = gs.length := ⟨_, rfl⟩
          have HN := Lib.hid hn
          rw [← hn]
          have vn : (n : Int) ≤ 2097152 := by omega
          obtain ⟨wo, hwo⟩ : ∃ wo, wo = wr := ⟨_, rfl⟩
          rw [← hwo] at HGT HKB HKC HKD HBW
          rw [← hwo]
          have hBo : B ≤ wo.heap.size := by have := (Array.getElem?_eq_some_iff.1 HKB.out.blk).1; have := HKB.out.lo; omega
          have HBO := Lib.hid hBo
          clear hwo hn hjl hj HKD HMD hBo hgn
          go_wp2
          go_loopw [16] (fun iv wx => ∃ k : Nat, iv = .int .i64 k ∧ k ≤ n ∧ Below wo.heap.size wo wx) (fun iv _ => n - (intOf iv).toNat)
          case atStart => exact ⟨0, rfl, Nat.zero_le _, Below.refl _ _⟩
          case round =>
            clear v3 d3
            obtain ⟨k, rfl, hk, hbk⟩ := hrel
            have HBK := Lib.hid hbk
            clear hbk
            by_cases hkl : k < n
            · have hkg : k < gs.length := by rw [← show n = _ from HN.out]; exact hkl
              have hgt := HGT.out.below HBK.out
              obtain ⟨g1, cp1, hpe1, x, hx, hcx⟩ := own23_cell hgt.gown hkg
              obtain ⟨g2, cp2, hpe2, y, hy, hcy⟩ := own23_cell hgt.hown hkg
              simp only [Value.slice.injEq, true_and] at hpe1 hpe2
              obtain ⟨rfl, rfl⟩ := hpe1
              obtain ⟨rfl, rfl⟩ := hpe2
              obtain ⟨L, p1, q1, c1, d1, e1, e2, hL, ho1, ho2⟩ := hgt.ent k hkg
              rw [hx] at e1
              rw [hy] at e2
              rw [Option.some.inj e1] at hcx
              rw [Option.some.inj e2] at hcy
              have v5 : (k : Int) < (n : Int) := by omega
              obtain ⟨p1', c1', hpe3, ht1⟩ := own_tokAt ho1
              obtain ⟨q1', d1', hpe4, ht2⟩ := own_tokAt ho2
              simp only [Value.slice.injEq, true_and] at hpe3 hpe4
              obtain ⟨rfl, rfl⟩ := hpe3
              obtain ⟨rfl, rfl⟩ := hpe4
              have hm2 : (L.map toT).length = L.length := by simp
              have HEQ : Hid (∀ wx, Below wr.heap.size wr wx → Calls Tryd.prog 19 #[.slice p1 L.length c1, .slice q1 L.length d1] wx fun e w' => e = .returned (.bool true) ∧ Below wx.heap.size wx w') := fun wx hxx => by
                have h := eqToks_same p1 q1 c1 d1 (L.map toT) wx (ht1.below hxx) (ht2.below hxx) (by omega)
                rw [hm2] at h
                exact h
              have l1 := lt_of_cell hcx
              have l2 := lt_of_cell hcy
              have HS : Hid (∀ wx, Below wr.heap.size wr wx → Below wr.heap.size wr wx ∧ wx.cell? ⟨g1, k, none⟩ = some (.slice p1 L.length c1) ∧ wx.cell? ⟨g2, k, none⟩ = some (.slice q1 L.length d1)) := fun wx hxx =>
                ⟨hxx, (hxx.cell (p := ⟨g1, k, none⟩) l1).trans hcx, (hxx.cell (p := ⟨g2, k, none⟩) l2).trans hcy⟩
              clear hgt hx hy e1 e2 hL ho1 ho2 ht1 ht2 hm2
              go_wp2
              go_region_held3 (fun wx => Below wr.heap.size wr wx ∧ wx.cell? ⟨g1, k, none⟩ = some (.slice p1 L.length c1) ∧ wx.cell? ⟨g2, k, none⟩ = some (.slice q1 L.length d1))
                ((refine HS.out _ ?_; first | assumption | exact Below.refl _ _ | exact (Below.refl _ _).drew | exact held_below (by assumption)))
                (first | (go_at_call 19; refine (HEQ.out _ (held_below (by assumption))).mono ?_; rintro e w3 ⟨rfl, hb3⟩; have hB3 : Below wr.heap.size wr w3 := held_on (by assumption) hb3))
              all_goals
                have HB3 : Hid (Below wo.heap.size wo w3) := HBK.out.trans (hB3.mono HBK.out.size)
                clear hB3 hb3
                go_wp2
                go_roundw
                case rel => exact ⟨k + 1, by go_num, by omega, HB3.out⟩
                case measure => simp [intOf]; omega
            · have v5 : ¬ (k : Int) < (n : Int) := by omega
              have d5 : decide (k < n) = false := by simp; omega
              have HGT4 := Lib.hid (HGT.out.below HBK.out)
              have HKB4 := Lib.hid (HKB.out.below HBK.out)
              have HKC4 := Lib.hid (HKC.out.below HBK.out)
              have HBW4 : Hid (Below B w wr) := HBW.out.trans (HBK.out.mono HBO.out)
              obtain ⟨H4, hH4⟩ : ∃ H4, H4 = wr.heap.size := ⟨_, rfl⟩
              have F1 : Hid (∀ y ∈ gs, ∀ g, y.ownBlock = some g → g < H4) := by rw [hH4]; exact HGT4.out.gs_lt
              have F2 : Hid (∀ g, v.ownBlock = some g → g < H4) := by rw [hH4]; exact fun g hg => (HKB4.out.own.lt g hg).2
              have F3 : Hid (∀ g, (Value.slice pG gs.length cG).ownBlock = some g → g < H4) := by rw [hH4]; exact fun g hg => (HGT4.out.gown.lt g hg).2
              have F4 : Hid (∀ (k k' : Nat), k < k' → ∀ (x y : Value), gs[k]? = some x → gs[k']? = some y → ∀ g, x.ownBlock = some g → y.ownBlock ≠ some g) := HGT4.out.dist
              have F5 : Hid (∀ x ∈ es, ∀ g, x.ownBlock = some g → ∀ y ∈ gs, y.ownBlock ≠ some g) := HGT4.out.gB
              have F6 : Hid (∀ k', k' < n → ∃ (L : List Tk) (p : Option Addr) (c : Nat), gs[k']? = some (.slice p L.length c) ∧ L.length ≤ 4097 ∧ wr.ownsRow B 28 3 (.slice p L.length c) L.length (tkCells L)) := fun k' hk' => by
                obtain ⟨L, p1, q1, c1, d1, e1, _, hL, ho1, _⟩ := HGT4.out.ent k' (by rw [← show n = _ from HN.out]; exact hk')
                exact ⟨L, p1, c1, e1, hL, ho1⟩
              have F7 : Hid (wr.ownsRow B 23 1 (.slice pG gs.length cG) gs.length gs) := HGT4.out.gown
              have F8 : Hid (H4 ≤ wr.heap.size) := by show _ ≤ _; omega
              clear hH4 HGT4 HGT HKB HKC HBW HBK HBO hkl hk
              go_wp2
              go_loopw [17] (fun iv wx => ∃ (k : Nat) (vC : Value) (mC : Int) (eC : List Value), iv = .int .i64 k ∧ k ≤ n ∧ Bk wx B hb v m es ∧ Bk wx B hc vC mC eC ∧ Below B w wx ∧ 0 ≤ mC ∧ mC ≤ (k : Int) * 6000000 ∧ eC.length ≤ 2 * k ∧ eC.length % 2 = 0 ∧
                wx.ownsRow B 23 1 (.slice pG gs.length cG) gs.length gs ∧ (∀ k', k ≤ k' → k' < n → ∃ (L : List Tk) (p : Option Addr) (c : Nat), gs[k']? = some (.slice p L.length c) ∧ L.length ≤ 4097 ∧ wx.ownsRow B 28 3 (.slice p L.length c) L.length (tkCells L)) ∧
                (∀ x ∈ eC, ∀ g, x.ownBlock = some g → H4 ≤ g ∨ ∃ k', k' < k ∧ ∃ y, gs[k']? = some y ∧ y.ownBlock = some g) ∧ (∀ g, vC.ownBlock = some g → H4 ≤ g) ∧ H4 ≤ wx.heap.size) (fun iv _ => n - (intOf iv).toNat)
              case atStart => exact ⟨0, _, _, _, rfl, Nat.zero_le _, HKB4.out, HKC4.out, HBW4.out, Int.le_refl _, by simp, by simp, rfl, F7.out, fun k' _ h => F6.out k' h, (fun x hx => by cases hx), (fun g hg => by cases hg), F8.out⟩
              case round =>
                clear F6 F7 F8 HKB4 HKC4 HBW4 v5 d5
                obtain ⟨k, vC, mC, eC, rfl, hk, hkb, hkc, hbw, x1, x2, x3, x4, hg, hrows, hes, hvC, hH⟩ := hrel
                have HKB := Lib.hid hkb
                have HKC := Lib.hid hkc
                have HBW := Lib.hid hbw
                have HX := Lib.hid (And.intro x1 (And.intro x2 (And.intro x3 x4)))
                have HG := Lib.hid hg
                have HR := Lib.hid hrows
                have HE := Lib.hid hes
                have HV := Lib.hid hvC
                have HH := Lib.hid hH
                clear hkb hkc hbw x1 x2 x3 x4 hg hrows hes hvC hH
                by_cases hkl : k < n
                · have hkg : k < gs.length := by rw [← show n = _ from HN.out]; exact hkl
                  obtain ⟨g1, cp1, hpe1, x, hx, hcx⟩ := own23_cell HG.out hkg
                  simp only [Value.slice.injEq, true_and] at hpe1
                  obtain ⟨rfl, rfl⟩ := hpe1
                  obtain ⟨L, p1, c1, e1, hL, ho⟩ := HR.out k (Nat.le_refl _) hkl
                  rw [hx] at e1
                  obtain rfl := Option.some.inj e1
                  have v5 : (k : Int) < (n : Int) := by omega
                  have hlm : Value.slice p1 L.length c1 ∈ gs := List.mem_of_getElem? hx
                  have hBw : B ≤ wr.heap.size := by have := (Array.getElem?_eq_some_iff.1 HKB.out.blk).1; have := HKB.out.lo; omega
                  have HTK : Hid (Calls Tryd.prog 16 #[.pointer (some ⟨hc, 0, none⟩), .slice p1 L.length c1] wr fun e w' => e = .returned (.tuple #[]) ∧ ∃ (vC : Value) (mC : Int) (eC : List Value), Bk w' B hb v m es ∧ Bk w' B hc vC mC eC ∧ Below B w w' ∧ 0 ≤ mC ∧ mC ≤ ((k + 1 : Nat) : Int) * 6000000 ∧ eC.length ≤ 2 * (k + 1) ∧ eC.length % 2 = 0 ∧
                      w'.ownsRow B 23 1 (.slice (some ⟨g1, 0, none⟩) gs.length cG) gs.length gs ∧ (∀ k', k + 1 ≤ k' → k' < n → ∃ (L : List Tk) (p : Option Addr) (c : Nat), gs[k']? = some (.slice p L.length c) ∧ L.length ≤ 4097 ∧ w'.ownsRow B 28 3 (.slice p L.length c) L.length (tkCells L)) ∧
                      (∀ x ∈ eC, ∀ g, x.ownBlock = some g → H4 ≤ g ∨ ∃ k', k' < k + 1 ∧ ∃ y, gs[k']? = some y ∧ y.ownBlock = some g) ∧ (∀ g, vC.ownBlock = some g → H4 ≤ g) ∧ H4 ≤ w'.heap.size) := by
                    obtain ⟨x1, x2, x3, x4⟩ := HX.out
                    have hHn : n = gs.length := HN.out
                    refine (btake_any B hc vC mC eC p1 L.length c1 (tkCells L) wr HKC.out hBw ho hL (fun x hxe => ⟨HKC.out.ne_hb.1 x hxe, fun g hg e => ?_⟩) x1 (by omega) (by omega) x4).mono ?_
                    · rcases HE.out x hxe g hg with h1 | ⟨k', h1, y, h2, h3⟩
                      · have := F1.out _ hlm g e
                        omega
                      · exact F4.out k' k h1 y _ h2 hx g h3 e
                    · rintro e w4 ⟨rfl, v', m', es', y1, y2, y3, y4, y5, y6, y7, y8, y9⟩
                      obtain ⟨curC, hcC⟩ : ∃ cur, wr.heap[hc]? = some (Obj.cells cur 43 (0, 0)) := ⟨_, HKC.out.blk⟩
                      have nL : ∀ g, (Value.slice p1 L.length c1).ownBlock = some g → ∃ cur, wr.heap[g]? = some (Obj.cells cur 28 (0, 0)) := fun g hg => own_type ho hg
                      have nV : ∀ g, vC.ownBlock = some g → ∃ cur, wr.heap[g]? = some (Obj.cells cur 23 (0, 0)) := fun g hg => own_type HKC.out.own hg
                      have keepT : ∀ (g : Nat) (cur : Array Value) (t : TypeId), wr.heap[g]? = some (Obj.cells cur t (0, 0)) → t ≠ 43 → (t = 23 → g < H4) → (t = 28 → (Value.slice p1 L.length c1).ownBlock ≠ some g) → w4.heap[g]? = wr.heap[g]? := fun g cur t h1 h2 h3 h4 =>
                        y3.block g (Array.getElem?_eq_some_iff.1 h1).1 (fun hS => by
                          rcases hS with h | h | h
                          · exact block_ne h1 hcC h2 h
                          · obtain ⟨cur', h5⟩ := nV g h
                            have ht : t = 23 := by
                              rw [h1] at h5
                              simp at h5
                              exact h5.2
                            have := h3 ht
                            have := HV.out g h
                            omega
                          · obtain ⟨cur', h5⟩ := nL g h
                            have ht : t = 28 := by
                              rw [h1] at h5
                              simp at h5
                              exact h5.2
                            exact h4 ht h)
                      refine ⟨rfl, v', m', es', HKB.out.keep (fun g hg1 hg2 => ?_), y1, HBW.out.trans y2, y4, by rw [Int.natCast_add]; omega, by omega, y7, own_keepT HG.out (fun g hg => ?_), fun k' hk1 hk2 => ?_, fun x hxe g hg => ?_, fun g hg => ?_, Nat.le_trans HH.out y3.size⟩
                      · rcases hg2 with rfl | hg2 | ⟨x, hxe, hg2⟩
                        · refine y3.block _ hg1 (fun hS => ?_)
                          rcases hS with h | h | h
                          · exact hne1 h
                          · obtain ⟨cur', h5⟩ := nV _ h
                            exact block_ne h5 HKB.out.blk (by decide) rfl
                          · obtain ⟨cur', h5⟩ := nL _ h
                            exact block_ne h5 HKB.out.blk (by decide) rfl
                        · obtain ⟨cur, h5⟩ := own_type HKB.out.own hg2
                          exact keepT g cur 23 h5 (by decide) (fun _ => F2.out g hg2) (fun h => by cases h)
                        · obtain ⟨cur, h5⟩ := HKB.out.kind x hxe g hg2
                          exact keepT g cur 28 h5 (by decide) (fun h => by cases h) (fun _ => F5.out x hxe g hg2 _ hlm)
                      · obtain ⟨cur, h5⟩ := own_type HG.out hg
                        exact keepT g cur 23 h5 (by decide) (fun _ => F3.out g hg) (fun h => by cases h)
                      · obtain ⟨L', p', c', e', hL', ho'⟩ := HR.out k' (by omega) hk2
                        refine ⟨L', p', c', e', hL', own_keepT ho' (fun g hg => ?_)⟩
                        obtain ⟨cur, h5⟩ := own_type ho' hg
                        exact keepT g cur 28 h5 (by decide) (fun h => by cases h) (fun _ e => F4.out k k' (by omega) _ _ hx e' g e hg)
                      · rcases y8 x hxe with h | h | h
                        · rcases HE.out x h g hg with h1 | ⟨k', h1, h2⟩
                          · exact .inl h1
                          · exact .inr ⟨k', by omega, h2⟩
                        · exact .inr ⟨k, by omega, _, hx, by rw [← h]; exact hg⟩
                        · exact .inl (Nat.le_trans HH.out (h g hg))
                      · rcases y9 with h | h
                        · exact HV.out g (by rw [← h]; exact hg)
                        · exact Nat.le_trans HH.out (h g hg)
                  clear e1 hL ho hlm hx hBw
                  go_wp2_with (go_at_call 16; refine HTK.out.mono ?_; rintro e w4 ⟨rfl, vC', mC', eC', z1, z2, z3, z4, z5, z6, z7, z8, z9, z10, z11, z12⟩)
                  go_roundw
                  case rel => exact ⟨k + 1, vC', mC', eC', by go_num, by omega, z1, z2, z3, z4, z5, z6, z7, z8, z9, z10, z11, z12⟩
                  case measure => simp [intOf]; omega
                · have v5 : ¬ (k : Int) < (n : Int) := by omega
                  have d5 : decide (k < n) = false := by simp; omega
                  have HW1 : Hid (Calls Tryd.prog 17 #[.pointer (some ⟨hb, 0, none⟩)] wr fun e w' => e = .returned (.bool true) ∧ Below wr.heap.size wr w') := whole_any B hb v m es wr HKB.out (by have := HMB.out.2.2.1; omega)
                  have HW2 : Hid (∀ wx, Below wr.heap.size wr wx → Calls Tryd.prog 17 #[.pointer (some ⟨hc, 0, none⟩)] wx fun e w' => e = .returned (.bool true) ∧ Below wx.heap.size wx w') := fun wx hxx => whole_any B hc vC mC eC wx (HKC.out.below hxx) (by have := HX.out.2.2.1; omega)
                  have hBw : B ≤ wr.heap.size := by have := (Array.getElem?_eq_some_iff.1 HKB.out.blk).1; have := HKB.out.lo; omega
                  have HBw := Lib.hid hBw
                  clear hBw
                  go_wp2_with fail
                  refine HW1.out.mono ?_
                  rintro e w4 ⟨rfl, hb4⟩
                  have HB4 := Lib.hid hb4
                  clear hb4
                  go_wp2_with fail
                  refine (HW2.out _ HB4.out).mono ?_
                  rintro e w5 ⟨rfl, hb5⟩
                  have HB5 : Hid (Below B w w5) := (HBW.out.trans (HB4.out.mono HBw.out)).trans (hb5.mono (Nat.le_trans HBw.out HB4.out.size))
                  clear hb5
                  go_wp2
                  go_ret
                  exact ⟨rfl, by rw [← show B = _ from HB.out]; exact HB5.out⟩
end Go.Proofs.YtdafnkfnaknoiaaDoor
namespace Go.Proofs.YtdafnkfnaknoiaaDoor
open Go Go.ChangeShapes Go.WideShapes Go.ChangeAt Go.RowKit Go.Deep
set_option maxHeartbeats 1000000
set_option linter.unusedVariables false
set_option linter.unusedSimpArgs false
theorem bulk_strs {H : Type} : ∀ ss : List ByteArray, ss.length ≤ Rows.uptoBulkAll (Go.ChangeShapes.strs ss : List (DataW H)) ∧ ∀ s ∈ ss, s.size ≤ Rows.uptoBulkAll (Go.ChangeShapes.strs ss : List (DataW H))
  | [] => by simp [Go.ChangeShapes.strs, Rows.uptoBulkAll]
  | s :: ss => by
    obtain ⟨h1, h2⟩ := bulk_strs (H := H) ss
    have hz : s.data.toList.length = s.size := by simp
    simp only [Go.ChangeShapes.strs, List.map_cons, Rows.uptoBulkAll, Rows.uptoBulk, List.length_cons] at h1 h2 ⊢
    refine ⟨by omega, fun t ht => ?_⟩
    rcases List.mem_cons.1 ht with rfl | ht
    · omega
    · have := h2 t ht
      omega
set_option maxRecDepth 100000 in
theorem open_txts {H : Type} {enc : TypeId × Value → H} {w : World} {held : Bool} {v : Value} {d : DataW H} {ps : List MemPlace} {r : Reach} {b0 : Nat} (hv : Value.okWide Tryd.prog w r b0 38 v)
    (h : DataW.Trod enc Tryd.prog w 0 (fun _ => true) held 38 v d ps) (hk : Rows.uptoBulk d ≤ 1048576) : ∃ p len cap, v = .slice p len cap ∧ len ≤ 1048576 ∧ TxtAt w p len := by
  obtain ⟨p, len, cap, rfl⟩ := okWide_slice Tryd.underlying38 hv
  obtain ⟨fuel, hf⟩ := h
  simp only [Value.cells] at hf
  refine ⟨p, len, cap, rfl, ?_⟩
  rcases open_strings Tryd.underlying38 (by kernel_rfl) (by kernel_rfl) hf with ⟨h0, _⟩ | ⟨a, l, c, ss, h0, _, hl, hm, hmm, hx, hi, _⟩
  · simp only [List.cons.injEq, Value.slice.injEq, and_true] at h0
    obtain ⟨rfl, rfl, rfl⟩ := h0
    exact ⟨Nat.zero_le _, fun i hi => absurd hi (Nat.not_lt_zero _)⟩
  · simp only [List.cons.injEq, Value.slice.injEq, and_true] at h0
    obtain ⟨rfl, rfl, rfl⟩ := h0
    have hd := congrArg Prod.fst hx
    simp only at hd
    simp only [if_true] at hmm
    obtain ⟨b1, b2⟩ := bulk_strs (H := H) (ss.take len)
    have hbk : Rows.uptoBulkAll (Go.ChangeShapes.strs (ss.take len) : List (DataW H)) ≤ 1048576 := by
      rw [hd] at hk
      simp only [Rows.uptoBulk] at hk
      omega
    have hlen : (ss.take len).length = len := by rw [List.length_take]; omega
    refine ⟨by omega, fun j hj => ?_⟩
    have x0 := hi j (by omega)
    obtain ⟨b, o, spot⟩ := a
    have hspot : spot = none := by simpa [Addr.add] using World.cell?_spot (hi 0 (by omega))
    subst hspot
    have hjl : j < ss.length := by omega
    refine ⟨b, o, ss[j], rfl, ?_, ?_⟩
    · rw [Addr.add_lit] at x0
      rw [x0]
      simp [List.getD, List.getElem?_eq_getElem hjl]
    · have hm2 : ss[j] ∈ ss.take len := by
        rw [List.mem_take_iff_getElem]
        exact ⟨j, by omega, rfl⟩
      have := b2 _ hm2
      omega
end Go.Proofs.YtdafnkfnaknoiaaDoor
