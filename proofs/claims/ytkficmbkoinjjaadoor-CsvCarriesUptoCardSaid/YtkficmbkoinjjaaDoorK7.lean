/- The walk of the law CsvCarries. -/
import Derived.Test.YtkficmbkoinjjaaDoorE6
import Derived.Test.YtkficmbkoinjjaaDoorE7
import Derived.Test.YtkficmbkoinjjaaDoorP10
namespace Go.Proofs.YtkficmbkoinjjaaDoor.lawCarries
open Go Go.ChangeShapes Go.WideShapes Go.ChangeAt Go.RowKit
open V
set_option maxHeartbeats 1600000
set_option linter.unusedVariables false
set_option linter.unusedSimpArgs false
/-- this Boolean says that -/
def GoodIs (gb : Bool) (P : Prop) : Prop := gb = true ↔ P
theorem valRow_set {w : World} {p : Option Addr} {vl : List V4} (h : ValRow w p vl) {b' o' : Nat} {u : Value} (hne : ∀ a, p = some a → a.block ≠ b') : ValRow (w.setCell ⟨b', o', none⟩ u) p vl := by
  intro i hi
  obtain ⟨b, o, e, h1, h2, h3, h4⟩ := h i hi
  have hb : b ≠ b' := hne _ e
  have e' : (w.setCell ⟨b', o', none⟩ u).heap[b]? = w.heap[b]? := Below.heap_setCell _ _ _ _ (by simpa using hb)
  exact ⟨b, o, e, (World.cell?_of_block (a := ⟨b, o + i * 4, none⟩) e').trans h1, (World.cell?_of_block (a := ⟨b, o + i * 4 + 1, none⟩) e').trans h2, (World.cell?_of_block (a := ⟨b, o + i * 4 + 2, none⟩) e').trans h3, (World.cell?_of_block (a := ⟨b, o + i * 4 + 3, none⟩) e').trans h4⟩
theorem fits_to {kd : List Int} {tm : Int} {vl : List V4} (h : Fits kd tm vl) (k : Nat) : FitsTo kd vl k :=
  ⟨by rw [List.map_take, h.2.1], fun v hv => h.2.2 v (List.mem_of_mem_take hv)⟩
theorem fits_last {kd : List Int} {vl : List V4} {k : Nat} (h : FitsTo kd vl (k + 1)) {v : V4} (hv : vl[k]? = some v) : Ok4 v ∧ kd[k]? = some v.k := by
  refine ⟨h.2 v ?_, ?_⟩
  · refine List.mem_of_getElem? (i := k) ?_
    rw [List.getElem?_take]
    simp [hv]
  · have := congrArg (·[k]?) h.1
    simp only [List.getElem?_map, List.getElem?_take, Nat.lt_succ_self, if_true, hv, Option.map_some] at this
    exact this.symm
set_option maxRecDepth 100000 in
theorem walk (nm : ByteArray) (p : Option Addr) (l : List (ByteArray × Int)) (c : Nat) (ty : ByteArray) (tm : Int) (q : Option Addr) (vl : List V4) (d : Nat) (rp : Option Addr) (C : List Cell) (rc : Nat) (W : World) (hM : Mx W) (hv : Vv W) (hA : AtRow W p l) (hV : ValRow W q vl) (hC : CellsIn W rp C)
    (hn : ∀ u ∈ vl, I64 u.n) (htm : I64 tm) (hl : l.length ≤ 1048576) (hm : vl.length ≤ 1048576) (hr : C.length ≤ 1048576) :
    Calls Tryd.prog 7 #[.agg #[.string nm, .slice p l.length c], .agg #[.string ty, .int .i64 tm, .slice q vl.length d], .slice rp C.length rc] W fun e w' => e = .returned (.bool true) ∧ Below W.heap.size W w' := by
  obtain ⟨n, hnn⟩ : ∃ n, n = vl.length := ⟨_, rfl⟩
  obtain ⟨m, hmm⟩ : ∃ m, m = l.length := ⟨_, rfl⟩
  obtain ⟨rn, hrr⟩ : ∃ rn, rn = C.length := ⟨_, rfl⟩
  have HN := Lib.hid hnn
  have HMM := Lib.hid hmm
  have HRN := Lib.hid hrr
  have HI := Lib.hid hn
  have HA0 := Lib.hid hA
  have HV0 := Lib.hid hV
  have HC0 := Lib.hid hC
  have HVV := Lib.hid hv
  have HM := Lib.hid hM
  -- the contracts as the law uses them
  have HROW : Hid (∀ wx, Below W.heap.size W wx → Calls Tryd.prog 17 #[.agg #[.string nm, .slice p m c], .agg #[.string ty, .int .i64 tm, .slice q n d]] wx (RowIs2 wx nm ty (kdL l) tm vl)) := fun wx hx => by
    rw [hnn, hmm]
    exact row2_any nm p l c ty tm q vl d wx (hv.below hx) (hA.below hx) (hV.below hx) hn (by omega) (by omega)
  have HROW2 : Hid (∀ wx tm2 q2 vl2 d2, Below W.heap.size W wx → ValRow wx q2 vl2 → Fits (kdL l) tm2 vl2 → Calls Tryd.prog 17 #[.agg #[.string nm, .slice p m c], .agg #[.string nm, .int .i64 tm2, .slice q2 vl2.length d2]] wx (RowIs2 wx nm nm (kdL l) tm2 vl2)) := fun wx tm2 q2 vl2 d2 hx hv2 hf => by
    rw [hmm]
    exact row2_any nm p l c nm tm2 q2 vl2 d2 wx (hv.below hx) (hA.below hx) hv2 (fun u hu => (hf.2.2 u hu).2) (by omega) (by have := hf.len; simp [kdL] at this; omega)
  have HEV : Hid (∀ wx q2 C2 d2, Below W.heap.size W wx → CellsIn wx q2 C2 → C2.length ≤ 1048577 → Calls Tryd.prog 19 #[.agg #[.string nm, .slice p m c], .slice q2 C2.length d2] wx (EventIs wx nm (kdL l) C2)) := fun wx q2 C2 d2 hx hc hlen => by
    rw [hmm]
    exact event_any nm p l c q2 C2 d2 wx (hv.below hx) (hA.below hx) hc (by omega) (by omega)
  have HEVC : Hid (∀ wx, Below W.heap.size W wx → Calls Tryd.prog 19 #[.agg #[.string nm, .slice p m c], .slice rp rn rc] wx (EventIs wx nm (kdL l) C)) := fun wx hx => by
    rw [hrr]
    exact HEV.out wx rp C rc hx (hC.below hx) (by omega)
  obtain ⟨w1, hw1⟩ : ∃ x, x = (W.alloc (Obj.cells #[.string nm, .slice p l.length c] 41)).alloc (Obj.cells #[.string ty, .int .i64 tm, .slice q vl.length d] 44) := ⟨_, rfl⟩
  have hb1 : Below W.heap.size W w1 := by rw [hw1]; exact ((Below.refl _ _).alloc (Nat.le_refl _) _).alloc (by simp) _
  have a0 : w1.cell? ⟨W.heap.size, 0, none⟩ = some (.string nm) := by rw [hw1]; simp [go_sem]
  have a1 : w1.cell? ⟨W.heap.size, 1, none⟩ = some (.slice p m c) := by rw [hw1, hmm]; simp [go_sem]
  have b0 : w1.cell? ⟨W.heap.size + 1, 0, none⟩ = some (.string ty) := by rw [hw1]; simp [go_sem]
  have b1 : w1.cell? ⟨W.heap.size + 1, 1, none⟩ = some (.int .i64 tm) := by rw [hw1]; simp [go_sem]
  have b2 : w1.cell? ⟨W.heap.size + 1, 2, none⟩ = some (.slice q n d) := by rw [hw1, hnn]; simp [go_sem]
  have hz1 : W.heap.size + 1 < w1.heap.size := by rw [hw1]; simp
  have HB1 := Lib.hid hb1
  rw [← hnn] at hw1 hm ⊢
  rw [← hmm] at hw1 hl ⊢
  rw [← hrr] at hr ⊢
  have HW2 := Lib.hid hw1
  obtain ⟨g, hg⟩ : ∃ g, g = W.heap.size := ⟨_, rfl⟩
  have HG := Lib.hid hg
  rw [← hg] at a0 a1 b0 b1 b2 hz1
  have zg : g < w1.heap.size := by omega
  have HTM := Lib.hid htm
  clear hM hv hA hV hC hn htm hnn hmm hrr hb1 hw1
  go_enter Tryd.func7, Tryd.ntmps7
  go_upto_region 1 with fail
  rw [← HW2.out, ← HG.out]
  clear hg
  go_wp2_with fail
  refine (begun_any w1 (HM.out.below HB1.out HM.out.lt)).mono ?_
  rintro e w2 ⟨rfl, hb2⟩
  have HB2 : Hid (Below W.heap.size W w2) := HB1.out.trans (hb2.mono HB1.out.size)
  replace a0 := (hb2.cell (p := ⟨g, 0, none⟩) zg).trans a0
  replace a1 := (hb2.cell (p := ⟨g, 1, none⟩) zg).trans a1
  replace b0 := (hb2.cell (p := ⟨g + 1, 0, none⟩) hz1).trans b0
  replace b1 := (hb2.cell (p := ⟨g + 1, 1, none⟩) hz1).trans b1
  replace b2 := (hb2.cell (p := ⟨g + 1, 2, none⟩) hz1).trans b2
  have z2 : g + 1 < w2.heap.size := Nat.lt_of_lt_of_le hz1 hb2.size
  have z3 : g < w2.heap.size := by omega
  clear hb2 hz1 zg
  go_upto_region 4 with fail
  go_cut [8] from 26 to 49 (fun s8 wx => ∃ gb : Bool, s8 = .bool gb ∧ wx = w2 ∧ GoodIs gb (ty = nm ∧ TmOk tm ∧ n = m))
  case first =>
    by_cases h1 : ty = nm
    · subst h1
      have t1 : (ty.toList == ty.toList) = true := by simp
      by_cases h2 : 0 ≤ tm
      · have t2 : decide (0 ≤ tm) = true := by simpa using h2
        by_cases h3 : tm ≤ 4611686018427387904
        · have t3 : decide (tm ≤ 4611686018427387904) = true := by simpa using h3
          by_cases h4 : n = m
          · subst h4
            have HH : Hid (0 ≤ tm ∧ tm ≤ 4611686018427387904) := ⟨h2, h3⟩
            clear h2 h3
            go_wp2_with fail
            go_meet
            exact ⟨true, rfl, rfl, Iff.intro (fun _ => ⟨by first | rfl | trivial, HH.out, by first | rfl | trivial⟩) (fun _ => rfl)⟩
          · have t4 : ((n : Int) == (m : Int)) = false := by simp; omega
            have HH := Lib.hid h4
            clear h2 h3 h4
            go_wp2_with fail
            go_meet
            exact ⟨false, rfl, rfl, Iff.intro (fun h => by cases h) (fun h => absurd h.2.2 HH.out)⟩
        · have t3 : decide (tm ≤ 4611686018427387904) = false := by simpa using h3
          have HH := Lib.hid h3
          clear h2 h3
          go_wp2_with fail
          go_meet
          exact ⟨false, rfl, rfl, Iff.intro (fun h => by cases h) (fun h => absurd h.2.1.2 (by have := HH.out; omega))⟩
      · have t2 : decide (0 ≤ tm) = false := by simpa using h2
        have HH := Lib.hid h2
        clear h2
        go_wp2_with fail
        go_meet
        exact ⟨false, rfl, rfl, Iff.intro (fun h => by cases h) (fun h => absurd h.2.1.1 (by have := HH.out; omega))⟩
    · have t1 : (ty.toList == nm.toList) = false := by
        rw [beq_eq_false_iff_ne]
        intro e
        exact h1 (V.bytes_ext (by rw [← ByteArray.toList_eq, ← ByteArray.toList_eq]; exact e))
      have HH := Lib.hid h1
      clear h1
      go_wp2_with fail
      go_meet
      exact ⟨false, rfl, rfl, Iff.intro (fun h => by cases h) (fun h => absurd h.1 HH.out)⟩
  case rest =>
  obtain ⟨gb, rfl, rfl, hgb⟩ := hcut
  obtain ⟨wb, ewb⟩ : ∃ x, x = wc := ⟨_, rfl⟩
  subst ewb
  go_wp2
  go_loopw [8, 9] (fun gv iv wr => ∃ (k : Nat) (gb : Bool), k ≤ n ∧ iv = .int .i64 k ∧ gv = .bool gb ∧ Below wb.heap.size wb wr ∧ (gb = true ↔ ty = nm ∧ TmOk tm ∧ n = m ∧ FitsTo (kdL l) vl k)) (fun _ iv _ => n - (intOf iv).toNat)
  case atStart => exact ⟨0, gb, Nat.zero_le _, rfl, rfl, by repeat (first | exact Below.refl _ _ | apply Below.drew), ⟨fun h => ⟨(hgb.1 h).1, (hgb.1 h).2.1, (hgb.1 h).2.2, FitsTo.zero _ _⟩, fun h => hgb.2 ⟨h.1, h.2.1, h.2.2.1⟩⟩⟩
  case round =>
    clear hgb
    obtain ⟨k, gk, hk, rfl, rfl, hbr, hgk⟩ := hrel
    have HGK := Lib.hid hgk
    have HBR := Lib.hid hbr
    have HBW : Hid (Below W.heap.size W wr) := HB2.out.trans (hbr.mono HB2.out.size)
    have c0 := (hbr.cell (p := ⟨g, 0, none⟩) z3).trans a0
    have c1 := (hbr.cell (p := ⟨g, 1, none⟩) z3).trans a1
    have d0 := (hbr.cell (p := ⟨g + 1, 0, none⟩) z2).trans b0
    have d1 := (hbr.cell (p := ⟨g + 1, 1, none⟩) z2).trans b1
    have d2 := (hbr.cell (p := ⟨g + 1, 2, none⟩) z2).trans b2
    have zr1 : g + 1 < wr.heap.size := Nat.lt_of_lt_of_le z2 hbr.size
    have zr : g < wr.heap.size := by omega
    clear hgk hbr a0 a1 b0 b1 b2 z2 z3
    by_cases hgo : k < n ∧ gk = true
    · obtain ⟨hlt, rfl⟩ := hgo
      obtain ⟨hty, htmo, hnm, hft⟩ := HGK.out.1 rfl
      have HKK := Lib.hid (And.intro hty (And.intro htmo (And.intro hnm hft)))
      obtain ⟨vk, vn, vs, vb, b, o, hvk, rfl, e0, e1, e2, e3⟩ := (HV0.out.below HBW.out).nth (k := k) (by rw [← show n = _ from HN.out]; exact hlt)
      obtain ⟨an, ak, b', o', hak, rfl, f0, f1⟩ := (HA0.out.below HBW.out).nth (k := k) (by rw [← show m = _ from HMM.out]; omega)
      have HVK := Lib.hid hvk
      have HAK := Lib.hid (kdL_at hak)
      have yb := lt_of_cell e0
      have yb' := lt_of_cell f0
      have hkm : k < m := by omega
      clear hty htmo hnm hft hvk hak HGK
      go_wp2_with fail
      refine (valid_any vk vn vs vb _).mono ?_
      rintro e w3 ⟨rfl, hb3⟩
      have HB3 : Hid (Below wb.heap.size wb w3) := HBR.out.trans (hb3.mono HBR.out.size)
      have q0 := (hb3.cell (p := ⟨b, o + k * 4, none⟩) yb).trans e0
      have q1 := (hb3.cell (p := ⟨b', o' + k * 2 + 1, none⟩) yb').trans f1
      have q2 := (hb3.cell (p := ⟨g, 1, none⟩) zr).trans c1
      have q3 := (hb3.cell (p := ⟨g + 1, 2, none⟩) zr1).trans d2
      clear hb3 e0 e1 e2 e3 f0 f1 c0 c1 d0 d1 d2
      cases hvl : valid vk vn vs vb
      · have HVL := Lib.hid hvl
        clear hvl
        go_wp2
        go_region
        go_wp2
        go_roundw
        case rel =>
          refine ⟨k + 1, false, by omega, by go_num, rfl, by repeat (first | exact HB3.out | apply Below.drew), fun h => by (cases h), fun h => ?_⟩
          have := (fits_last h.2.2.2 HVK.out).1.1
          simp only at this
          rw [HVL.out] at this
          exact this
        case measure => simp [intOf]; omega
      · have HVL := Lib.hid hvl
        clear hvl
        by_cases hka : vk = ak
        · subst hka
          have dk : (vk == vk) = true := by simp
          go_wp2
          go_region
          go_wp2
          go_roundw
          case rel => exact ⟨k + 1, true, by omega, by go_num, rfl, by repeat (first | exact HB3.out | apply Below.drew), fun _ => ⟨HKK.out.1, HKK.out.2.1, HKK.out.2.2.1, HKK.out.2.2.2.step HVK.out HAK.out ⟨HVL.out, HI.out _ (List.mem_of_getElem? HVK.out)⟩⟩, fun _ => rfl⟩
          case measure => simp [intOf]; omega
        · have dk : (vk == ak) = false := by simpa using hka
          have HKA := Lib.hid hka
          clear hka
          go_wp2
          go_region
          go_wp2
          go_roundw
          case rel =>
            refine ⟨k + 1, false, by omega, by go_num, rfl, by repeat (first | exact HB3.out | apply Below.drew), fun h => by (cases h), fun h => ?_⟩
            have h2 := (fits_last h.2.2.2 HVK.out).2
            rw [HAK.out] at h2
            exact absurd (Option.some.inj h2).symm HKA.out
          case measure => simp [intOf]; omega
    · have HGF : Hid (gk = true ↔ ty = nm ∧ Fits (kdL l) tm vl) := by
        show _ ↔ _
        constructor
        · intro h
          obtain ⟨hty, htmo, hnm, hft⟩ := HGK.out.1 h
          have hkn : k = vl.length := by
            rw [← show n = _ from HN.out]
            rcases Nat.lt_or_ge k n with h2 | h2
            · exact absurd ⟨h2, h⟩ hgo
            · omega
          rw [hkn] at hft
          exact ⟨hty, hft.all (by have h1 := HN.out; have h2 := HMM.out; simp [kdL]; omega) htmo⟩
        · intro h
          refine HGK.out.2 ⟨h.1, h.2.1, ?_, fits_to h.2 k⟩
          have h1 := h.2.len
          have h2 := HN.out
          have h3 := HMM.out
          simp [kdL] at h1
          omega
      have HNG := Lib.hid hgo
      clear HGK hgo
      cases gk with
      | false =>
        by_cases hlt : k < n
        · have hno : ¬ (ty = nm ∧ Fits (kdL l) tm vl) := fun h => absurd (HGF.out.2 h) (by simp)
          go_wp2_with fail
          refine (HROW.out _ HBW.out).mono ?_
          intro e w3 hrow
          rcases hrow.2 with ⟨h1, h2, _⟩ | ⟨_, E, hE, rfl⟩
          · exact absurd ⟨h1, h2⟩ hno
          have hb3 := hrow.1
          have HB3 : Hid (Below W.heap.size W w3) := HBW.out.trans (hb3.mono HBW.out.size)
          have dE : (E == 0) = false := by simpa using hE
          have c0' := (hb3.cell (p := ⟨g, 0, none⟩) zr).trans c0
          have c1' := (hb3.cell (p := ⟨g, 1, none⟩) zr).trans c1
          have zr3 : g < w3.heap.size := Nat.lt_of_lt_of_le zr hb3.size
          clear hrow hno hE c0 c1 d0 d1 d2 zr zr1 HGF hb3
          go_wp2_with fail
          refine (HEVC.out _ HB3.out).mono ?_
          intro e w5 hev
          have hb5 := hev.1
          have HB5 : Hid (Below W.heap.size W w5) := HB3.out.trans (hb5.mono HB3.out.size)
          have x0 := (hb5.cell (p := ⟨g, 0, none⟩) zr3).trans c0'
          have x1 := (hb5.cell (p := ⟨g, 1, none⟩) zr3).trans c1'
          have z5 : g < w5.heap.size := Nat.lt_of_lt_of_le zr3 hb5.size
          clear c0' c1' zr3
          rcases hev.2 with ⟨tm2, vl2, p2, cc2, rfl, hvr2, hfr2, hf2, hrow2⟩ | ⟨E5, hE5, rfl, _⟩
          case inr =>
            have dE5 : (E5 != 0) = true := by simpa using hE5
            clear hev hb5 hE5
            go_wp2
            go_ret
            exact ⟨rfl, HB5.out.alloc HB5.out.size _⟩
          obtain ⟨n2, hn2⟩ : ∃ n2, n2 = vl2.length := ⟨_, rfl⟩
          have hR2 := fun wx h1 h2 => HROW2.out wx tm2 p2 vl2 cc2 h1 h2 hf2
          have HVR2 := Lib.hid hvr2
          rw [← hn2] at hR2 ⊢
          have HR2 := Lib.hid hR2
          have HRW2 := Lib.hid hrow2
          have HF2 := Lib.hid hf2
          clear hev hb5 hvr2 hf2 hrow2 hn2 hR2
          have z6 : ¬ (g = w5.heap.size) := by omega
          have z7 : ¬ (w5.heap.size = g) := by omega
          have hal : Below w5.heap.size w5 (w5.alloc (Obj.cells #[.string nm, .int .i64 tm2, .slice p2 n2 cc2] 44)) := (Below.refl _ _).alloc (Nat.le_refl _) _
          have HR3 := Lib.hid (HR2.out _ (HB5.out.trans (hal.mono HB5.out.size)) (HVR2.out.below hal))
          clear hal HR2
          go_wp2_with fail
          refine HR3.out.mono ?_
          intro e w6 hrow6
          rcases hrow6.2 with ⟨_, _, v6, rfl, hown6⟩ | ⟨hno, _⟩
          case inr => exact absurd ⟨rfl, HF2.out⟩ hno
          have hb6 := hrow6.1
          have HB6 : Hid (Below W.heap.size W w6) := (HB5.out.alloc HB5.out.size _).trans (hb6.mono (by have := HB5.out.size; simp; omega))
          rw [HRW2.out] at hown6
          obtain ⟨q6, k6, rfl⟩ := own_slice hown6
          have hS := sameRow_any C q6 rp k6 rc w6 hown6.cellsIn.1 (HC0.out.below HB6.out) (by rw [← HRN.out]; unfold maxLen; omega)
          rw [← HRN.out] at hS ⊢
          have HS := Lib.hid hS
          clear hrow6 hb6 hown6 hS x0 x1 z6 z7
          go_wp2_with fail
          refine HS.out.mono ?_
          rintro e w7 ⟨rfl, hb7⟩
          have HB7 : Hid (Below W.heap.size W w7) := HB6.out.trans (hb7.mono HB6.out.size)
          clear hb7 HS
          go_wp2
          go_ret
          exact ⟨rfl, HB7.out⟩
        · have hno : ¬ (ty = nm ∧ Fits (kdL l) tm vl) := fun h => absurd (HGF.out.2 h) (by simp)
          go_wp2_with fail
          refine (HROW.out _ HBW.out).mono ?_
          intro e w3 hrow
          rcases hrow.2 with ⟨h1, h2, _⟩ | ⟨_, E, hE, rfl⟩
          · exact absurd ⟨h1, h2⟩ hno
          have hb3 := hrow.1
          have HB3 : Hid (Below W.heap.size W w3) := HBW.out.trans (hb3.mono HBW.out.size)
          have dE : (E == 0) = false := by simpa using hE
          have c0' := (hb3.cell (p := ⟨g, 0, none⟩) zr).trans c0
          have c1' := (hb3.cell (p := ⟨g, 1, none⟩) zr).trans c1
          have zr3 : g < w3.heap.size := Nat.lt_of_lt_of_le zr hb3.size
          clear hrow hno hE c0 c1 d0 d1 d2 zr zr1 HGF hb3
          go_wp2_with fail
          refine (HEVC.out _ HB3.out).mono ?_
          intro e w5 hev
          have hb5 := hev.1
          have HB5 : Hid (Below W.heap.size W w5) := HB3.out.trans (hb5.mono HB3.out.size)
          have x0 := (hb5.cell (p := ⟨g, 0, none⟩) zr3).trans c0'
          have x1 := (hb5.cell (p := ⟨g, 1, none⟩) zr3).trans c1'
          have z5 : g < w5.heap.size := Nat.lt_of_lt_of_le zr3 hb5.size
          clear c0' c1' zr3
          rcases hev.2 with ⟨tm2, vl2, p2, cc2, rfl, hvr2, hfr2, hf2, hrow2⟩ | ⟨E5, hE5, rfl, _⟩
          case inr =>
            have dE5 : (E5 != 0) = true := by simpa using hE5
            clear hev hb5 hE5
            go_wp2
            go_ret
            exact ⟨rfl, HB5.out.alloc HB5.out.size _⟩
          obtain ⟨n2, hn2⟩ : ∃ n2, n2 = vl2.length := ⟨_, rfl⟩
          have hR2 := fun wx h1 h2 => HROW2.out wx tm2 p2 vl2 cc2 h1 h2 hf2
          have HVR2 := Lib.hid hvr2
          rw [← hn2] at hR2 ⊢
          have HR2 := Lib.hid hR2
          have HRW2 := Lib.hid hrow2
          have HF2 := Lib.hid hf2
          clear hev hb5 hvr2 hf2 hrow2 hn2 hR2
          have z6 : ¬ (g = w5.heap.size) := by omega
          have z7 : ¬ (w5.heap.size = g) := by omega
          have hal : Below w5.heap.size w5 (w5.alloc (Obj.cells #[.string nm, .int .i64 tm2, .slice p2 n2 cc2] 44)) := (Below.refl _ _).alloc (Nat.le_refl _) _
          have HR3 := Lib.hid (HR2.out _ (HB5.out.trans (hal.mono HB5.out.size)) (HVR2.out.below hal))
          clear hal HR2
          go_wp2_with fail
          refine HR3.out.mono ?_
          intro e w6 hrow6
          rcases hrow6.2 with ⟨_, _, v6, rfl, hown6⟩ | ⟨hno, _⟩
          case inr => exact absurd ⟨rfl, HF2.out⟩ hno
          have hb6 := hrow6.1
          have HB6 : Hid (Below W.heap.size W w6) := (HB5.out.alloc HB5.out.size _).trans (hb6.mono (by have := HB5.out.size; simp; omega))
          rw [HRW2.out] at hown6
          obtain ⟨q6, k6, rfl⟩ := own_slice hown6
          have hS := sameRow_any C q6 rp k6 rc w6 hown6.cellsIn.1 (HC0.out.below HB6.out) (by rw [← HRN.out]; unfold maxLen; omega)
          rw [← HRN.out] at hS ⊢
          have HS := Lib.hid hS
          clear hrow6 hb6 hown6 hS x0 x1 z6 z7
          go_wp2_with fail
          refine HS.out.mono ?_
          rintro e w7 ⟨rfl, hb7⟩
          have HB7 : Hid (Below W.heap.size W w7) := HB6.out.trans (hb7.mono HB6.out.size)
          clear hb7 HS
          go_wp2
          go_ret
          exact ⟨rfl, HB7.out⟩
      | true =>
        have hlt : ¬ k < n := fun h => HNG.out ⟨h, rfl⟩
        obtain ⟨hty, hfit⟩ := HGF.out.1 rfl
        subst hty
        have HFIT := Lib.hid hfit
        clear hfit
        go_wp2_with fail
        refine (HROW.out _ HBW.out).mono ?_
        intro e w3 hrow
        rcases hrow.2 with ⟨_, _, v, rfl, hown⟩ | ⟨hno, _⟩
        case inr => exact absurd ⟨rfl, HFIT.out⟩ hno
        have hb3 := hrow.1
        obtain ⟨vp, vc, rfl⟩ := own_slice hown
        have HB3 : Hid (Below W.heap.size W w3) := HBW.out.trans (hb3.mono HBW.out.size)
        have HROWIN := Lib.hid hown.cellsIn.1
        have c0' := (hb3.cell (p := ⟨g, 0, none⟩) zr).trans c0
        have c1' := (hb3.cell (p := ⟨g, 1, none⟩) zr).trans c1
        have d0' := (hb3.cell (p := ⟨g + 1, 0, none⟩) zr1).trans d0
        have d1' := (hb3.cell (p := ⟨g + 1, 1, none⟩) zr1).trans d1
        have d2' := (hb3.cell (p := ⟨g + 1, 2, none⟩) zr1).trans d2
        have zr4 : g + 1 < w3.heap.size := Nat.lt_of_lt_of_le zr1 hb3.size
        have zr3 : g < w3.heap.size := by omega
        clear hrow c0 c1 d0 d1 d2 zr zr1 HGF hb3 hown
        obtain ⟨R, hR⟩ : ∃ R, R = rowC tm vl := ⟨_, rfl⟩
        have HRR := Lib.hid hR
        rw [← hR] at HROWIN ⊢
        have hjn := row_join HFIT.out
        have hcl := row_cells HFIT.out
        have hrl := rowC_len tm vl
        rw [← hR] at hjn hcl hrl
        rw [← show n = _ from HN.out] at hjn hrl
        have hal : Below w3.heap.size w3 (w3.alloc (Obj.cells #[.slice vp R.length vc] 27)) := (Below.refl _ _).alloc (Nat.le_refl _) _
        have hrin : RowsIn (w3.alloc (Obj.cells #[.slice vp R.length vc] 27)) (some ⟨w3.heap.size, 0, none⟩) [R] := by
          intro i hi
          have hi0 : i = 0 := by simp at hi; omega
          subst hi0
          exact ⟨w3.heap.size, 0, vp, vc, rfl, by simp [go_sem], HROWIN.out.below hal⟩
        have hJ := join_any [R] (some ⟨w3.heap.size, 0, none⟩) 1 (w3.alloc (Obj.cells #[.slice vp R.length vc] 27)) (HM.out.below (HB3.out.trans (hal.mono HB3.out.size)) HM.out.lt) hrin (by show 1 ≤ maxLen; decide) (by
          intro r hr
          simp only [List.mem_singleton] at hr
          subst hr
          exact ⟨by rw [hrl]; unfold maxLen; omega, fun x hx => by have := hcl x hx; omega⟩)
        obtain ⟨rl, hrl2⟩ : ∃ rl, rl = R.length := ⟨_, rfl⟩
        rw [← hrl2] at hJ hal hrl ⊢
        have HJ := Lib.hid hJ
        have HJN := Lib.hid hjn
        have HRL := Lib.hid (And.intro hrl2 hrl)
        have HAL := Lib.hid hal
        clear hR hjn hcl hrin hJ hal hrl hrl2
        go_wp2_with fail
        refine HJ.out.mono ?_
        rintro e w4 ⟨hb4, rfl⟩
        have hb34 : Below w3.heap.size w3 w4 := HAL.out.trans (hb4.mono HAL.out.size)
        have HB4 : Hid (Below W.heap.size W w4) := HB3.out.trans (hb34.mono HB3.out.size)
        have HRI4 := Lib.hid (HROWIN.out.below hb34)
        have e0 := (hb34.cell (p := ⟨g, 0, none⟩) zr3).trans c0'
        have e1 := (hb34.cell (p := ⟨g, 1, none⟩) zr3).trans c1'
        have f0 := (hb34.cell (p := ⟨g + 1, 0, none⟩) zr4).trans d0'
        have f1 := (hb34.cell (p := ⟨g + 1, 1, none⟩) zr4).trans d1'
        have f2 := (hb34.cell (p := ⟨g + 1, 2, none⟩) zr4).trans d2'
        have zs4 : g + 1 < w4.heap.size := Nat.lt_of_lt_of_le zr4 hb34.size
        have zs3 : g < w4.heap.size := by omega
        clear hb4 hb34 c0' c1' d0' d1' d2' zr3 zr4 HJ HAL
        obtain ⟨JF, hJF⟩ : ∃ x, x = joinF [R] := ⟨_, rfl⟩
        obtain ⟨JT, hJT⟩ : ∃ x, x = joinT [R] := ⟨_, rfl⟩
        have hjn := HJN.out
        rw [← hJF, ← hJT] at hjn ⊢
        clear hJF hJT HJN
        rcases hjn with ⟨hf, h16⟩ | ⟨hf, hsp⟩
        · subst hf
          have d16 : decide ((16 : Int) < (n : Int)) = true := by simp; omega
          clear h16
          go_wp2
          go_ret
          exact ⟨rfl, HB4.out⟩
        · subst hf
          have HSP := Lib.hid hsp
          clear hsp
          go_wp2_with fail
          refine (split_any JT w4).mono ?_
          intro e w5 hspl
          obtain ⟨sq, sd, rfl, hb5, hin5, _, _, _⟩ := hspl.ok HSP.out
          have HB5 : Hid (Below W.heap.size W w5) := HB4.out.trans (hb5.mono HB4.out.size)
          have HRI5 := Lib.hid (HRI4.out.below hb5)
          obtain ⟨R2, sb, so, q5, k5, hR2, rfl, s0, hci⟩ := hin5.nth (k := 0) (by show 0 < 1; omega)
          simp only [List.getElem?_cons_zero, Option.some.injEq] at hR2
          subst hR2
          rw [Nat.add_zero] at s0
          rw [← HRL.out.1] at s0
          have HCI := Lib.hid hci
          have hlen1 : ([R] : List (List Cell)).length = 1 := rfl
          rw [hlen1]
          have e0' := (hb5.cell (p := ⟨g, 0, none⟩) zs3).trans e0
          have e1' := (hb5.cell (p := ⟨g, 1, none⟩) zs3).trans e1
          have f0' := (hb5.cell (p := ⟨g + 1, 0, none⟩) zs4).trans f0
          have f1' := (hb5.cell (p := ⟨g + 1, 1, none⟩) zs4).trans f1
          have f2' := (hb5.cell (p := ⟨g + 1, 2, none⟩) zs4).trans f2
          have zt4 : g + 1 < w5.heap.size := Nat.lt_of_lt_of_le zs4 hb5.size
          have zt3 : g < w5.heap.size := by omega
          have zsb := lt_of_cell s0
          have hS := sameRow_any R q5 vp k5 vc w5 HCI.out HRI5.out (by rw [← HRL.out.1, HRL.out.2]; unfold maxLen; omega)
          rw [← HRL.out.1] at hS
          have HS := Lib.hid hS
          clear hspl hb5 hin5 hci e0 e1 f0 f1 f2 zs3 zs4 hS HSP hlen1
          go_wp2_with fail
          refine HS.out.mono ?_
          rintro e w6 ⟨rfl, hb6⟩
          have HB6 : Hid (Below W.heap.size W w6) := HB5.out.trans (hb6.mono HB5.out.size)
          have e0 := (hb6.cell (p := ⟨g, 0, none⟩) zt3).trans e0'
          have e1 := (hb6.cell (p := ⟨g, 1, none⟩) zt3).trans e1'
          have f0 := (hb6.cell (p := ⟨g + 1, 0, none⟩) zt4).trans f0'
          have f1 := (hb6.cell (p := ⟨g + 1, 1, none⟩) zt4).trans f1'
          have f2 := (hb6.cell (p := ⟨g + 1, 2, none⟩) zt4).trans f2'
          have s1 := (hb6.cell (p := ⟨sb, so, none⟩) zsb).trans s0
          have zu4 : g + 1 < w6.heap.size := Nat.lt_of_lt_of_le zt4 hb6.size
          have zu3 : g < w6.heap.size := by omega
          have zub : sb < w6.heap.size := Nat.lt_of_lt_of_le zsb hb6.size
          have HEV6 : Hid (∀ wx, Below w6.heap.size w6 wx → Calls Tryd.prog 19 #[.agg #[.string ty, .slice p m c], .slice q5 rl k5] wx fun e w' => ∃ (p2 : Option Addr) (cc2 : Nat), e = .returned (.tuple #[.agg #[.string ty, .int .i64 tm, .slice p2 n cc2], .int .i64 0]) ∧ Below wx.heap.size wx w' ∧ ValRow w' p2 vl ∧ ∀ a, p2 = some a → wx.heap.size ≤ a.block) := fun wx hx => by
            rw [HRL.out.1]
            refine (HEV.out wx q5 R k5 (HB6.out.trans (hx.mono HB6.out.size)) ((HCI.out.below hb6).below hx) (by rw [← HRL.out.1, HRL.out.2]; omega)).mono ?_
            intro e w' hev
            rcases hev.2 with ⟨tm2, vl2, p2, cc2, rfl, hvr2, hfr2, hf2, hrow2⟩ | ⟨E5, hE5, rfl, hno⟩
            · rw [HRR.out] at hrow2
              obtain ⟨rfl, rfl⟩ := rowC_inj hf2 HFIT.out hrow2
              exact ⟨p2, cc2, by rw [HN.out], hev.1, hvr2, hfr2⟩
            · exact absurd HRR.out.symm (hno tm vl HFIT.out)
          clear hb6 e0' e1' f0' f1' f2' s0 zsb zt3 zt4 HS HCI
          go_upto_region 20 with fail
          have nb7 : ¬ (sb = w6.heap.size) := by omega
          have ng7 : ¬ (g = w6.heap.size) := by omega
          have nb8 : ¬ (w6.heap.size = sb) := by omega
          have ng8 : ¬ (w6.heap.size = g) := by omega
          go_cut [18, 19] from 130 to 137 (fun s18 s19 wx => ∃ (g18 : Nat) (p2 : Option Addr) (cc2 : Nat), s18 = .pointer (some ⟨g18, 0, none⟩) ∧ s19 = .int .i64 0 ∧ Below w6.heap.size w6 wx ∧ wx.cell? ⟨g18, 0, none⟩ = some (.string ty) ∧ wx.cell? ⟨g18, 1, none⟩ = some (.int .i64 tm) ∧ wx.cell? ⟨g18, 2, none⟩ = some (.slice p2 n cc2) ∧ ValRow wx p2 vl)
          case first =>
            go_region_law (first | (go_simp; go_at_call 19; refine (HEV6.out _ (by repeat (first | assumption | exact Below.refl _ _ | apply Below.drew | refine Below.alloc ?_ (by first | exact Nat.le_refl _ | simp) _))).mono ?_; rintro e w8 ⟨p2, cc2, rfl, hb8, hvr8, hfr8⟩; obtain ⟨hc8, hf8⟩ := bcell hb8))
            all_goals
              have hsz := hb8.size
              simp at hsz
              go_wp2_with fail
              go_meet
              clear HROW HROW2 HEV HEVC HEV6 HFIT HRR HRL HN HMM HRN HI HA0 HV0 HC0 HVV HM
              try (refine ⟨w8.heap.size, p2, cc2, rfl, rfl, ((Below.refl _ _).drew.trans hb8).alloc hsz _, ?_, ?_, ?_, hvr8.below ((Below.refl _ _).alloc (Nat.le_refl _) _)⟩ <;> simp [go_sem])
            all_goals
              have q0 := hc8 w6.heap.size 0 (by simp)
              have q1 := hc8 w6.heap.size 1 (by simp)
              have q2 := hc8 w6.heap.size 2 (by simp)
              simp [go_sem] at q0 q1 q2
              have hne : ∀ a, p2 = some a → a.block ≠ w6.heap.size := fun a ha => by
                have := hfr8 a ha
                simp at this
                omega
              have hb7 : Below w6.heap.size w6 w8 := by
                refine Below.trans ?_ (hb8.mono (by simp))
                repeat (first | exact Below.refl _ _ | apply Below.drew | refine Below.alloc ?_ (by first | exact Nat.le_refl _ | simp) _)
              refine ⟨w6.heap.size, p2, cc2, rfl, rfl, ((hb7.setCell (p := ⟨w6.heap.size, 0, none⟩) (Nat.le_refl _) _).setCell (p := ⟨w6.heap.size, 1, none⟩) (Nat.le_refl _) _).setCell (p := ⟨w6.heap.size, 2, none⟩) (Nat.le_refl _) _, ?_, ?_, ?_, valRow_set (valRow_set (valRow_set hvr8 hne) hne) hne⟩
              all_goals simp [go_sem, q0, q1, q2]
          case rest =>
          obtain ⟨g18, p2, cc2, rfl, rfl, hb9, v0, v1, v2, hvr9⟩ := hcut
          have HB9 : Hid (Below W.heap.size W wc) := HB6.out.trans (hb9.mono HB6.out.size)
          have e0' := (hb9.cell (p := ⟨g, 0, none⟩) zu3).trans e0
          have e1' := (hb9.cell (p := ⟨g, 1, none⟩) zu3).trans e1
          have f0' := (hb9.cell (p := ⟨g + 1, 0, none⟩) zu4).trans f0
          have f1' := (hb9.cell (p := ⟨g + 1, 1, none⟩) zu4).trans f1
          have f2' := (hb9.cell (p := ⟨g + 1, 2, none⟩) zu4).trans f2
          have zw3 : g < wc.heap.size := Nat.lt_of_lt_of_le zu3 hb9.size
          obtain ⟨we, ewe⟩ : ∃ x, x = wc := ⟨_, rfl⟩
          subst ewe
          have hSE := sameEvent_any ty tm vl p2 q cc2 d we hvr9 (HV0.out.below HB9.out) (by rw [← show n = _ from HN.out]; omega)
          rw [← show n = _ from HN.out] at hSE
          have HSE := Lib.hid hSE
          clear hb9 hvr9 e0 e1 f0 f1 f2 zu3 zu4 zub s1 hSE HEV6 nb7 ng7 nb8 ng8
          go_wp2_with fail
          refine HSE.out.mono ?_
          rintro e w10 ⟨rfl, hb10⟩
          have HB10 : Hid (Below W.heap.size W w10) := HB9.out.trans (hb10.mono HB9.out.size)
          have c0z := (hb10.cell (p := ⟨g, 0, none⟩) zw3).trans e0'
          have c1z := (hb10.cell (p := ⟨g, 1, none⟩) zw3).trans e1'
          have zz3 : g < w10.heap.size := Nat.lt_of_lt_of_le zw3 hb10.size
          clear hb10 e0' e1' f0' f1' f2' zw3 HSE v0 v1 v2
          go_wp2_with fail
          refine (HEVC.out _ HB10.out).mono ?_
          intro e wA hev
          have hb5 := hev.1
          have HBA : Hid (Below W.heap.size W wA) := HB10.out.trans (hb5.mono HB10.out.size)
          have x0 := (hb5.cell (p := ⟨g, 0, none⟩) zz3).trans c0z
          have x1 := (hb5.cell (p := ⟨g, 1, none⟩) zz3).trans c1z
          have z5 : g < wA.heap.size := Nat.lt_of_lt_of_le zz3 hb5.size
          clear c0z c1z zz3
          rcases hev.2 with ⟨tm2, vl2, p2, cc2, rfl, hvr2, hfr2, hf2, hrow2⟩ | ⟨E5, hE5, rfl, _⟩
          case inr =>
            have dE5 : (E5 != 0) = true := by simpa using hE5
            clear hev hb5 hE5
            go_wp2
            go_ret
            exact ⟨rfl, HBA.out.alloc HBA.out.size _⟩
          obtain ⟨n2, hn2⟩ : ∃ n2, n2 = vl2.length := ⟨_, rfl⟩
          have hR2 := fun wx h1 h2 => HROW2.out wx tm2 p2 vl2 cc2 h1 h2 hf2
          have HVR2 := Lib.hid hvr2
          rw [← hn2] at hR2 ⊢
          have HR2 := Lib.hid hR2
          have HRW2 := Lib.hid hrow2
          have HF2 := Lib.hid hf2
          clear hev hb5 hvr2 hf2 hrow2 hn2 hR2
          have z6 : ¬ (g = wA.heap.size) := by omega
          have z7 : ¬ (wA.heap.size = g) := by omega
          have hal : Below wA.heap.size wA (wA.alloc (Obj.cells #[.string ty, .int .i64 tm2, .slice p2 n2 cc2] 44)) := (Below.refl _ _).alloc (Nat.le_refl _) _
          have HR3 := Lib.hid (HR2.out _ (HBA.out.trans (hal.mono HBA.out.size)) (HVR2.out.below hal))
          clear hal HR2
          go_wp2_with fail
          refine HR3.out.mono ?_
          intro e wB hrowB
          rcases hrowB.2 with ⟨_, _, v6, rfl, hown6⟩ | ⟨hno, _⟩
          case inr => exact absurd ⟨rfl, HF2.out⟩ hno
          have hb6 := hrowB.1
          have HBB : Hid (Below W.heap.size W wB) := (HBA.out.alloc HBA.out.size _).trans (hb6.mono (by have := HBA.out.size; simp; omega))
          rw [HRW2.out] at hown6
          obtain ⟨q6, k6, rfl⟩ := own_slice hown6
          have hS := sameRow_any C q6 rp k6 rc wB hown6.cellsIn.1 (HC0.out.below HBB.out) (by rw [← HRN.out]; unfold maxLen; omega)
          rw [← HRN.out] at hS ⊢
          have HS := Lib.hid hS
          clear hrowB hb6 hown6 hS x0 x1 z6 z7
          go_wp2_with fail
          refine HS.out.mono ?_
          rintro e wC ⟨rfl, hb7⟩
          have HBC : Hid (Below W.heap.size W wC) := HBB.out.trans (hb7.mono HBB.out.size)
          clear hb7 HS
          go_wp2
          go_ret
          exact ⟨rfl, HBC.out⟩
end Go.Proofs.YtkficmbkoinjjaaDoor.lawCarries
