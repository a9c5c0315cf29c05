/- The walk of the law WireOneForm. -/
import Derived.Test.YtlinpkmfjkcoiaaDoorJ1
import Derived.Test.YtlinpkmfjkcoiaaDoorN2
import Derived.Deep.CutBlock
import Derived.Deep.DeepCutAuto
import Derived.Deep.CutRange
namespace Go.Proofs.YtlinpkmfjkcoiaaDoor.lawOneForm
open Go Go.ChangeShapes Go.WideShapes Go.ChangeAt Go.RowKit
set_option maxHeartbeats 4000000
set_option linter.unusedVariables false
set_option linter.unusedSimpArgs false
set_option maxRecDepth 100000 in
theorem walk (ty : ByteArray) (tm : Int) (vl : List V4) (vp : Option Addr) (vc : Nat) (hvl : vl.length ≤ maxLen) (hi4 : ∀ v ∈ vl, In4 v) (n : Int) (hn : I64 n) (bp : Option Addr) (bc : Nat) (bl : List UInt8) (hbc : bl.length ≤ 1048576) (hbn : bp = none → bc = 0) (rp : Option Addr) (rc : Nat) (rl : List UInt8) (hrc : rl.length ≤ rc) (hrm : rc ≤ maxLen)
    (W : World) (hK : Kw W) (hV : ValRow W vp vl) (hB : In W bp bl) (hR : In W rp rl) :
    Calls Tryd.prog 3 #[.agg #[.string ty, .int .i64 tm, .slice vp vl.length vc], .int .i64 n, .slice bp bl.length bc, .slice rp rl.length rc] W fun e w' => e = .returned (.bool true) ∧ Below W.heap.size W w' := by
  obtain ⟨i0, hi, hz0, hz1, hz2⟩ := info_parts infoByte
  have HK := Lib.hid hK
  have HB := Lib.hid hB
  have HR := Lib.hid hR
  have HFR : Hid (∀ wx, In wx rp rl → Kw wx → Calls Tryd.prog 12 #[.slice rp rl.length rc] wx fun e w' => e = .returned (.bool true) ∧ Below wx.heap.size wx w') := fun wx h1 h2 => front_l rl rp rc wx h1 hrc hrm h2
  have HNR : Hid (∀ wx, In wx rp rl → Calls Tryd.prog 13 #[.slice rp rl.length rc] wx fun e w' => e = .returned (.bool true) ∧ Below wx.heap.size wx w') := fun wx h1 => number_l rl rp rc wx h1 hrc hrm
  have HENC : Hid (∀ wx, Kw wx → ValRow wx vp vl → Calls Tryd.prog 16 #[.agg #[.string ty, .int .i64 tm, .slice vp vl.length vc]] wx (EncIs wx ⟨ty, tm, vl⟩)) := fun wx h1 h2 => encode_any ty tm vl vp vc wx h1 h2 hvl hi4
  have HEV : Hid (∀ wx q d, ValRow wx q vl → ValRow wx vp vl → Calls Tryd.prog 18 #[.agg #[.string ty, .int .i64 tm, .slice q vl.length d], .agg #[.string ty, .int .i64 tm, .slice vp vl.length vc]] wx fun e w' => e = .returned (.bool true) ∧ Below wx.heap.size wx w') := fun wx q d h1 h2 => events_true ty tm vl q vp d vc wx h1 h2 hvl
  have HP : Hid (∀ wx, Calls Tryd.prog 14 #[.int .i64 n] wx fun e w' => ∃ q d, e = .returned (.slice q (put n).length d) ∧ Out w' wx.heap.size (.slice q (put n).length d) (put n) ∧ Below wx.heap.size wx w') := fun wx => (putInt_any n hn wx).mono fun e w' ⟨q, d, he, ho, hw⟩ => ⟨q, d, he, ho, hw.below (Out.nil wx wx.heap.size) (Nat.le_refl _)⟩
  have H10 := put_len hn
  have HNUM : Hid (num (put n ++ bl) = .ok n (put n).length) := num_form.there n hn bl
  obtain ⟨L, hL⟩ : ∃ L, L = put n := ⟨_, rfl⟩
  rw [← hL] at HP H10 HNUM
  obtain ⟨w0, hw0⟩ : ∃ x, x = W.alloc (.cells #[.string ty, .int .i64 tm, .slice vp vl.length vc] 24) := ⟨_, rfl⟩
  have hb0 : Below W.heap.size W w0 := by rw [hw0]; exact (Below.refl _ _).alloc (Nat.le_refl _) _
  have T0 : Hid (Three w0 W.heap.size ty tm (.slice vp vl.length vc)) := by show Three _ _ _ _ _; rw [hw0]; exact Three.new W ty tm vp vl.length vc
  have HW := Lib.hid hw0
  have B0 := Lib.hid hb0
  have V0 := Lib.hid (hV.below hb0)
  have HVL := Lib.hid hvl
  obtain ⟨vn, hvn⟩ : ∃ vn, vn = vl.length := ⟨_, rfl⟩
  obtain ⟨bn, hbn'⟩ : ∃ bn, bn = bl.length := ⟨_, rfl⟩
  obtain ⟨rn, hrn⟩ : ∃ rn, rn = rl.length := ⟨_, rfl⟩
  have HVN := Lib.hid hvn
  have HBN := Lib.hid hbn'
  rw [← hvn] at HENC HEV HW T0 ⊢
  rw [← hrn] at HFR HNR ⊢
  rw [← hbn'] at hbc ⊢
  have HBZ := Lib.hid hbn
  clear hw0 hb0 hK hV hB hR hvn hrn hbn' hL hvl hi4 hn hrc hrm hbn
  obtain ⟨EB, hEB⟩ : ∃ EB, EB = W.heap.size := ⟨_, rfl⟩
  rw [← hEB] at T0
  go_enter Tryd.func3, Tryd.ntmps3
  go_upto_region 1 with fail
  rw [← HW.out, ← hEB]
  clear hEB
  go_wp2_with fail
  refine (begun_any w0 (HK.out.below B0.out)).mono ?_
  rintro e w1 ⟨rfl, hb1⟩
  have B1 : Hid (Below W.heap.size W w1) := B0.out.trans (hb1.mono B0.out.size)
  have T1 := Lib.hid (T0.out.below hb1)
  have V1 := Lib.hid (V0.out.below hb1)
  clear hb1
  go_wp2_with fail
  refine (HFR.out w1 (HR.out.below B1.out) (HK.out.below B1.out)).mono ?_
  rintro e w2 ⟨rfl, hb2⟩
  have B2 : Hid (Below W.heap.size W w2) := B1.out.trans (hb2.mono B1.out.size)
  have T2 := Lib.hid (T1.out.below hb2)
  have V2 := Lib.hid (V1.out.below hb2)
  clear hb2
  go_wp2_with fail
  refine (HNR.out w2 (HR.out.below B2.out)).mono ?_
  rintro e w3 ⟨rfl, hb3⟩
  have B3 : Hid (Below W.heap.size W w3) := B2.out.trans (hb3.mono B2.out.size)
  have T3 := Lib.hid (T2.out.below hb3)
  have V3 := Lib.hid (V2.out.below hb3)
  clear hb3
  go_wp2_with fail
  refine (HP.out w3).mono ?_
  rintro e w4 ⟨q4, d4, rfl, ho4, hb4⟩
  have B4 : Hid (Below W.heap.size W w4) := B3.out.trans (hb4.mono B3.out.size)
  have T4 := Lib.hid (T3.out.below hb4)
  have V4' := Lib.hid (V3.out.below hb4)
  have HO4 := Lib.hid ho4
  have HIN4 := Lib.hid ho4.inn.1
  have hz4 := Lib.hid ho4.nilcap
  have hl4 : L.length ≤ maxLen := by unfold maxLen; omega
  clear hb4 ho4
  go_wp2_with (at_builtin; refine wpList_cat rfl _ _ rfl w4.heap.size i0 hi hz0 hz1 hz2 (.slice none 0 0) [] rfl (Out.nil _ _) q4 d4 L.length L rfl rfl HIN4.out hz4.out (by simp; omega) (by simp; omega) (Nat.le_refl _) L.length (by simp) ?_)
  intro p5 c5 w5 hO5 hW5
  have hb5 : Below w4.heap.size w4 w5 := hW5.below (Out.nil _ _) (Nat.le_refl _)
  have hz5 : w4.heap.size ≤ w5.heap.size := hb5.size
  have B5 : Hid (Below W.heap.size W w5) := B4.out.trans (hb5.mono B4.out.size)
  have T5 := Lib.hid (T4.out.below hb5)
  have V5' := Lib.hid (V4'.out.below hb5)
  have HO5 := Lib.hid hO5
  have HIN5 := Lib.hid (HIN4.out.below hb5)
  have HBB5 := Lib.hid (HB.out.below B5.out)
  have HSM : Hid (L.length + bl.length ≤ maxLen ∧ L.length + bl.length ≤ 140737488355328) := by have := HBN.out; show _ ∧ _; unfold maxLen; omega
  have HBE5 : Hid (Below w4.heap.size w4 w5) := hb5
  have HN5 : Hid (L.length + bn = L.length + bl.length) := by show _ = _; rw [HBN.out]
  clear hO5 hW5 hb5
  go_wp2_with (at_builtin; refine wpList_cat rfl _ _ rfl w4.heap.size i0 hi hz0 hz1 hz2 (.slice p5 L.length c5) L rfl HO5.out bp bc bn bl HBN.out rfl HBB5.out HBZ.out HSM.out.1 HSM.out.2 hz5 (L.length + bn) HN5.out ?_)
  intro p6 c6 w6 hO6 hW6
  have hb6 : Below w4.heap.size w5 w6 := hW6.below HO5.out hz5
  have HBE6 : Hid (Below w4.heap.size w4 w6) := HBE5.out.trans hb6
  have B6 : Hid (Below W.heap.size W w6) := B5.out.trans (hb6.mono B4.out.size)
  have T6 := Lib.hid (T4.out.below HBE6.out)
  have V6 := Lib.hid (V4'.out.below HBE6.out)
  have HIN6 := Lib.hid (HIN4.out.below HBE6.out)
  obtain ⟨hin6, hl6, hm6⟩ := hO6.inn
  have HC6 : Hid (Calls Tryd.prog 15 #[.slice p6 (L.length + bn) c6] w6 fun e w' => e = .returned (.tuple #[.int .i64 n, .int .i64 L.length, .int .i64 0]) ∧ Below w6.heap.size w6 w') := by
    have h1 := int_any p6 c6 (L ++ bl) w6 hin6 hl6 hm6
    rw [List.length_append, ← show bn = _ from HBN.out] at h1
    refine h1.mono ?_
    rintro e w' ⟨hb, h⟩
    rw [HNUM.out] at h
    exact ⟨h, hb⟩
  clear hO6 hW6 hb6 hin6 hl6 hm6
  go_wp2_with fail
  refine HC6.out.mono ?_
  rintro e w7 ⟨rfl, hb7⟩
  have B7 : Hid (Below W.heap.size W w7) := B6.out.trans (hb7.mono B6.out.size)
  have T7 := Lib.hid (T6.out.below hb7)
  have V7 := Lib.hid (V6.out.below hb7)
  have HIN7 := Lib.hid (HIN6.out.below hb7)
  have HLD : Hid (L.length ≤ d4 ∧ d4 ≤ maxLen) := HO4.out.inn.2
  have HC7 := Lib.hid (number_l L q4 d4 w7 HIN7.out HLD.out.1 HLD.out.2)
  clear hb7
  go_wp2_with fail
  refine HC7.out.mono ?_
  rintro e w8 ⟨rfl, hb8⟩
  have B8 : Hid (Below W.heap.size W w8) := B7.out.trans (hb8.mono B7.out.size)
  have T8 := Lib.hid (T7.out.below hb8)
  have V8 := Lib.hid (V7.out.below hb8)
  clear hb8
  obtain ⟨c0, c1, c2, _, _, _⟩ := T8.out
  go_wp2_with fail
  refine (HENC.out w8 (HK.out.below B8.out) V8.out).mono ?_
  rintro e w9 ⟨hb9, h9⟩
  have B9 : Hid (Below W.heap.size W w9) := B8.out.trans (hb9.mono B8.out.size)
  have T9 := Lib.hid (T8.out.below hb9)
  have V9 := Lib.hid (V8.out.below hb9)
  clear hb9 c0 c1 c2
  obtain ⟨c0, c1, c2, _, _, _⟩ := T9.out
  rcases h9 with ⟨_, hok, q9, d9, rfl, ho9⟩ | ⟨hne, rfl⟩
  · have HTH : Hid (evtR (evtW ⟨ty, tm, vl⟩ ++ bl) = .ok ⟨ty, tm, vl⟩ (evtW ⟨ty, tm, vl⟩).length) := evtR_law.there ⟨ty, tm, vl⟩ hok bl
    have hM5 := evtW_len hok
    obtain ⟨M, hM⟩ : ∃ M, M = evtW ⟨ty, tm, vl⟩ := ⟨_, rfl⟩
    rw [← hM] at ho9 hM5 HTH ⊢
    have HO9 := Lib.hid ho9
    have HIN9 := Lib.hid ho9.inn.1
    have HLD9 : Hid (M.length ≤ d9 ∧ d9 ≤ maxLen) := ho9.inn.2
    have hz9 := Lib.hid ho9.nilcap
    have hm9 : M.length ≤ maxLen := by unfold maxLen; omega
    have HFM : Hid (∀ wx, In wx q9 M → Kw wx → Calls Tryd.prog 12 #[.slice q9 M.length d9] wx fun e w' => e = .returned (.bool true) ∧ Below wx.heap.size wx w') := fun wx h1 h2 => front_l M q9 d9 wx h1 HLD9.out.1 HLD9.out.2 h2
    clear hM ho9 hok
    go_wp2_with (at_builtin; refine wpList_cat rfl _ _ rfl w9.heap.size i0 hi hz0 hz1 hz2 (.slice none 0 0) [] rfl (Out.nil _ _) q9 d9 M.length M rfl rfl HIN9.out hz9.out (by simp; omega) (by simp; omega) (Nat.le_refl _) M.length (by simp) ?_)
    intro pa ca wa hOa hWa
    have hba : Below w9.heap.size w9 wa := hWa.below (Out.nil _ _) (Nat.le_refl _)
    have hza : w9.heap.size ≤ wa.heap.size := hba.size
    have Ba : Hid (Below W.heap.size W wa) := B9.out.trans (hba.mono B9.out.size)
    have HOa := Lib.hid hOa
    have HBBa := Lib.hid (HB.out.below Ba.out)
    have HSMa : Hid (M.length + bl.length ≤ maxLen ∧ M.length + bl.length ≤ 140737488355328) := by have := HBN.out; show _ ∧ _; unfold maxLen; omega
    have HBEa : Hid (Below w9.heap.size w9 wa) := hba
    have HNa : Hid (M.length + bn = M.length + bl.length) := by show _ = _; rw [HBN.out]
    clear hOa hWa hba
    go_wp2_with (at_builtin; refine wpList_cat rfl _ _ rfl w9.heap.size i0 hi hz0 hz1 hz2 (.slice pa M.length ca) M rfl HOa.out bp bc bn bl HBN.out rfl HBBa.out HBZ.out HSMa.out.1 HSMa.out.2 hza (M.length + bn) HNa.out ?_)
    intro pb cb wb hOb hWb
    have hbb : Below w9.heap.size wa wb := hWb.below HOa.out hza
    have HBEb : Hid (Below w9.heap.size w9 wb) := HBEa.out.trans hbb
    have Bb : Hid (Below W.heap.size W wb) := Ba.out.trans (hbb.mono B9.out.size)
    have Tb := Lib.hid (T9.out.below HBEb.out)
    have Vb := Lib.hid (V9.out.below HBEb.out)
    have HINb := Lib.hid (HIN9.out.below HBEb.out)
    obtain ⟨hinb, hlb, hmb⟩ := hOb.inn
    have HCb : Hid (Calls Tryd.prog 17 #[.slice pb (M.length + bn) cb] wb fun e w' => ∃ q d, e = .returned (.tuple #[.agg #[.string ty, .int .i64 tm, .slice q vn d], .int .i64 M.length, .int .i64 0]) ∧ ValRow w' q vl ∧ Below wb.heap.size wb w') := by
      have h1 := decode_any pb cb (M ++ bl) wb hinb hlb hmb (HK.out.below Bb.out)
      rw [List.length_append, ← show bn = _ from HBN.out] at h1
      refine h1.mono ?_
      intro e w' h
      obtain ⟨hb, q, d, he, hv⟩ := dec_ok h HTH.out
      exact ⟨q, d, by rw [show vn = _ from HVN.out]; exact he, hv, hb⟩
    clear hOb hWb hbb hinb hlb hmb c0 c1 c2
    go_wp2_with fail
    refine HCb.out.mono ?_
    rintro e wc ⟨qc, dc, rfl, hvc, hbc'⟩
    have Bc : Hid (Below W.heap.size W wc) := Bb.out.trans (hbc'.mono Bb.out.size)
    have Tc := Lib.hid (Tb.out.below hbc')
    have Vc := Lib.hid (Vb.out.below hbc')
    have HINc := Lib.hid (HINb.out.below hbc')
    have HVC := Lib.hid hvc
    clear hvc hbc'
    go_upto_region 12 with fail
    have hbd : Below wc.heap.size wc (wc.alloc (.cells #[.string ty, .int .i64 tm, .slice qc vn dc] 24)) := (Below.refl _ _).alloc (Nat.le_refl _) _
    have TD : Hid (Three (wc.alloc (.cells #[.string ty, .int .i64 tm, .slice qc vn dc] 24)) wc.heap.size ty tm (.slice qc vn dc)) := Three.new wc _ _ _ _ _
    obtain ⟨wd, hwd⟩ : ∃ x, x = wc.alloc (.cells #[.string ty, .int .i64 tm, .slice qc vn dc] 24) := ⟨_, rfl⟩
    rw [← hwd] at hbd TD ⊢
    obtain ⟨DB, hDB⟩ : ∃ DB, DB = wc.heap.size := ⟨_, rfl⟩
    rw [← hDB] at TD ⊢
    have Bd : Hid (Below W.heap.size W wd) := Bc.out.trans (hbd.mono Bc.out.size)
    have Td := Lib.hid (Tc.out.below hbd)
    have Vd := Lib.hid (Vc.out.below hbd)
    have HINd := Lib.hid (HINc.out.below hbd)
    have HVD := Lib.hid (HVC.out.below hbd)
    clear hwd hDB hbd
    obtain ⟨c0, c1, c2, _, _, _⟩ := Td.out
    obtain ⟨e0, e1, e2, _, _, _⟩ := TD.out
    go_wp2_with fail
    refine (HEV.out wd qc dc HVD.out Vd.out).mono ?_
    rintro e we ⟨rfl, hbe⟩
    have Be : Hid (Below W.heap.size W we) := Bd.out.trans (hbe.mono Bd.out.size)
    have HINe := Lib.hid (HINd.out.below hbe)
    clear hbe
    go_wp2_with fail
    refine (HFM.out we HINe.out (HK.out.below Be.out)).mono ?_
    rintro e wf ⟨rfl, hbf⟩
    have Bf : Hid (Below W.heap.size W wf) := Be.out.trans (hbf.mono Be.out.size)
    clear hbf
    go_wp2
    go_ret
    exact ⟨rfl, Bf.out⟩
  · obtain ⟨F, hF⟩ : ∃ F, F = encF ty.toList tm vl := ⟨_, rfl⟩
    simp only at hne ⊢
    rw [← hF] at hne ⊢
    have dF : (F != 0) = true := by simpa using hne
    clear hne hF
    go_wp2
    go_ret
    exact ⟨rfl, B9.out⟩
end Go.Proofs.YtlinpkmfjkcoiaaDoor.lawOneForm
