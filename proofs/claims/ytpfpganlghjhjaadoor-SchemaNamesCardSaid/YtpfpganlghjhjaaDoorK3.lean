/- The walk of the law SchemaNames. -/
import Derived.Test.YtpfpganlghjhjaaDoorK2b
import Derived.Deep.CutBlock
import Derived.Deep.DeepCutAuto
import Derived.Deep.CutRange
namespace Go.Proofs.YtpfpganlghjhjaaDoor.lawNames
open Go Go.ChangeShapes Go.WideShapes Go.ChangeAt Go.RowKit
set_option maxHeartbeats 10000000
set_option linter.unusedVariables false
set_option linter.unusedSimpArgs false
set_option maxRecDepth 100000 in
theorem walk (s : ByteArray) (hz : s.size ≤ maxLen) (W : World) (hK : Kw W) : Calls Tryd.prog 5 #[.string s] W fun e w' => e = .returned (.bool true) ∧ Below W.heap.size W w' := by
  obtain ⟨okb, hok⟩ : ∃ b : Bool, b = (decide (1 ≤ s.size) && decide (s.size ≤ 32)) := ⟨_, rfl⟩
  have HOK := Lib.hid hok
  have HK := Lib.hid hK
  clear hok hK
  unfold maxLen at hz
  go_enter Tryd.func5, Tryd.ntmps5
  go_upto_region 1 with fail
  go_cut [3] from 13 to 20 (fun s3 wx => s3 = .bool okb ∧ wx = W)
  case first =>
    have ho := HOK.out
    by_cases h1 : 1 ≤ s.size
    · have d1 : decide ((1 : Int) ≤ (s.size : Int)) = true := by simp; omega
      by_cases h2 : s.size ≤ 32
      · have d2 : decide ((s.size : Int) ≤ 32) = true := by simp; omega
        rw [decide_eq_true h1, decide_eq_true h2] at ho
        have HO : Hid (okb = true) := ho
        clear ho
        go_wp2
        go_meet
        exact ⟨by rw [HO.out], rfl⟩
      · have d2 : decide ((s.size : Int) ≤ 32) = false := by simp; omega
        rw [decide_eq_true h1, decide_eq_false h2] at ho
        have HO : Hid (okb = false) := ho
        clear ho
        go_wp2
        go_meet
        exact ⟨by rw [HO.out], rfl⟩
    · have d1 : decide ((1 : Int) ≤ (s.size : Int)) = false := by simp; omega
      rw [decide_eq_false h1] at ho
      have HO : Hid (okb = false) := ho
      clear ho
      go_wp2
      go_meet
      exact ⟨by rw [HO.out], rfl⟩
  case rest =>
  obtain ⟨rfl, hwc⟩ := hcut
  obtain rfl := hwc.symm
  go_wp2
  go_loopw [3, 4] (fun o i wr => ∃ k : Nat, k ≤ s.size ∧ i = .int .i64 k ∧ o = .bool (okb && goodTo s.toList k) ∧ wr = W) (fun _ i _ => s.size - (intOf i).toNat)
  case atStart => exact ⟨0, Nat.zero_le _, rfl, by simp [goodTo], rfl⟩
  case round =>
    obtain ⟨k, hk, rfl, rfl, hwr⟩ := hrel
    obtain rfl := hwr.symm
    by_cases hlt : k < s.size
    · skip
      have hg : s.toList.getD k 0 = s[k] := by
        rw [ByteArray.toList_eq, List.getD_eq_getElem?_getD, at_some hlt]
        rfl
      have HS : Hid (goodTo s.toList (k + 1) = (goodTo s.toList k && good k s[k].toNat)) := by show _ = _; simp only [goodTo]; rw [hg]
      obtain ⟨b, hb⟩ : ∃ b, b = (okb && goodTo s.toList k) := ⟨_, rfl⟩
      rw [← hb]
      have HB := Lib.hid hb
      clear hb hg
      obtain ⟨nb, hnb⟩ : ∃ nb, nb = dgt (s[k].toNat : Int) := ⟨_, rfl⟩
      obtain ⟨lb, hlb⟩ : ∃ lb, lb = (ltr (s[k].toNat : Int) || (s[k].toNat : Int) == 95) := ⟨_, rfl⟩
      have HNB := Lib.hid hnb
      have HLB := Lib.hid hlb
      clear hnb hlb
      go_upto_region 6 with fail
      go_cut [6] from 30 to 63 (fun s6 wx => s6 = .bool nb ∧ wx = W)
      case first =>
        have hc : (s[k].toNat : Int) < 48 ∨ (48 ≤ (s[k].toNat : Int) ∧ (s[k].toNat : Int) ≤ 57) ∨ 57 < (s[k].toNat : Int) := by omega
        rcases hc with hc | ⟨hc, hc'⟩ | hc
        · have HD : Hid (nb = false) := by show _ = _; rw [show nb = _ from HNB.out]; simp [ltr, dgt]; omega
          have d0 : decide (48 ≤ (s[k].toNat : Int)) = false := by simp; omega
          clear hc
          go_wp2
          go_meet
          exact ⟨by rw [HD.out], rfl⟩
        · have HD : Hid (nb = true) := by show _ = _; rw [show nb = _ from HNB.out]; simp [ltr, dgt]; omega
          have d0 : decide (48 ≤ (s[k].toNat : Int)) = true := by simp; omega
          have d1 : decide ((s[k].toNat : Int) ≤ 57) = true := by simp; omega
          clear hc
          go_wp2
          go_meet
          exact ⟨by rw [HD.out], rfl⟩
        · have HD : Hid (nb = false) := by show _ = _; rw [show nb = _ from HNB.out]; simp [ltr, dgt]; omega
          have d0 : decide (48 ≤ (s[k].toNat : Int)) = true := by simp; omega
          have d1 : decide ((s[k].toNat : Int) ≤ 57) = false := by simp; omega
          clear hc
          go_wp2
          go_meet
          exact ⟨by rw [HD.out], rfl⟩
      case rest =>
      obtain ⟨rfl, hwc⟩ := hcut
      obtain rfl := hwc.symm
      go_upto_region 7 with fail
      go_cut [7] from 30 to 63 (fun s7 wx => s7 = .bool lb ∧ wx = W)
      case first =>
        have hc : (97 ≤ (s[k].toNat : Int) ∧ (s[k].toNat : Int) ≤ 122) ∨ 122 < (s[k].toNat : Int) ∨ (65 ≤ (s[k].toNat : Int) ∧ (s[k].toNat : Int) ≤ 90) ∨ (90 < (s[k].toNat : Int) ∧ (s[k].toNat : Int) < 97 ∧ (s[k].toNat : Int) ≠ 95) ∨ (s[k].toNat : Int) = 95 ∨ (s[k].toNat : Int) < 65 := by omega
        rcases hc with ⟨hc, hc'⟩ | hc | ⟨hc, hc'⟩ | ⟨hc, hc', hc''⟩ | hc | hc
        · have HD : Hid (lb = true) := by show _ = _; rw [show lb = _ from HLB.out]; simp [ltr, dgt]; omega
          have d0 : decide (97 ≤ (s[k].toNat : Int)) = true := by simp; omega
          have d1 : decide ((s[k].toNat : Int) ≤ 122) = true := by simp; omega
          clear hc
          go_wp2
          go_meet
          exact ⟨by rw [HD.out], rfl⟩
        · have HD : Hid (lb = false) := by show _ = _; rw [show lb = _ from HLB.out]; simp [ltr, dgt]; omega
          have d0 : decide (97 ≤ (s[k].toNat : Int)) = true := by simp; omega
          have d1 : decide ((s[k].toNat : Int) ≤ 122) = false := by simp; omega
          have d2 : decide (65 ≤ (s[k].toNat : Int)) = true := by simp; omega
          have d3 : decide ((s[k].toNat : Int) ≤ 90) = false := by simp; omega
          have d4 : ((s[k].toNat : Int) == 95) = false := by simp; omega
          clear hc
          go_wp2
          go_meet
          exact ⟨by rw [HD.out], rfl⟩
        · have HD : Hid (lb = true) := by show _ = _; rw [show lb = _ from HLB.out]; simp [ltr, dgt]; omega
          have d0 : decide (97 ≤ (s[k].toNat : Int)) = false := by simp; omega
          have d1 : decide (65 ≤ (s[k].toNat : Int)) = true := by simp; omega
          have d2 : decide ((s[k].toNat : Int) ≤ 90) = true := by simp; omega
          clear hc
          go_wp2
          go_meet
          exact ⟨by rw [HD.out], rfl⟩
        · have HD : Hid (lb = false) := by show _ = _; rw [show lb = _ from HLB.out]; simp [ltr, dgt]; omega
          have d0 : decide (97 ≤ (s[k].toNat : Int)) = false := by simp; omega
          have d1 : decide (65 ≤ (s[k].toNat : Int)) = true := by simp; omega
          have d2 : decide ((s[k].toNat : Int) ≤ 90) = false := by simp; omega
          have d3 : ((s[k].toNat : Int) == 95) = false := by simp; omega
          clear hc
          go_wp2
          go_meet
          exact ⟨by rw [HD.out], rfl⟩
        · have HD : Hid (lb = true) := by show _ = _; rw [show lb = _ from HLB.out]; simp [ltr, dgt]; omega
          have d0 : decide (97 ≤ (s[k].toNat : Int)) = false := by simp; omega
          have d1 : decide (65 ≤ (s[k].toNat : Int)) = true := by simp; omega
          have d2 : decide ((s[k].toNat : Int) ≤ 90) = false := by simp; omega
          have d3 : ((s[k].toNat : Int) == 95) = true := by simp; omega
          clear hc
          go_wp2
          go_meet
          exact ⟨by rw [HD.out], rfl⟩
        · have HD : Hid (lb = false) := by show _ = _; rw [show lb = _ from HLB.out]; simp [ltr, dgt]; omega
          have d0 : decide (97 ≤ (s[k].toNat : Int)) = false := by simp; omega
          have d1 : decide (65 ≤ (s[k].toNat : Int)) = false := by simp; omega
          have d2 : ((s[k].toNat : Int) == 95) = false := by simp; omega
          clear hc
          go_wp2
          go_meet
          exact ⟨by rw [HD.out], rfl⟩
      case rest =>
      obtain ⟨rfl, hwc⟩ := hcut
      obtain rfl := hwc.symm
      cases lb
      · cases nb
        · have HG : Hid (good k s[k].toNat = false) := by
            show _ = _
            unfold good
            rw [← show _ = _ from HLB.out, ← show _ = _ from HNB.out]
            rfl
          go_wp2
          go_roundw
          case rel => exact ⟨k + 1, by omega, by go_num, by rw [HS.out, HG.out]; simp, by first | rfl | trivial⟩
          case measure => simp [intOf]; omega
        · by_cases hk0 : k = 0
          · have HG : Hid (good k s[k].toNat = false) := by
              show _ = _
              unfold good
              rw [← show _ = _ from HLB.out, ← show _ = _ from HNB.out]
              simp [hk0]
            have dk : ((k : Int) == 0) = true := by simp; omega
            go_wp2
            go_roundw
            case rel => exact ⟨k + 1, by omega, by go_num, by rw [HS.out, HG.out]; simp, by first | rfl | trivial⟩
            case measure => simp [intOf]; omega
          · have HG : Hid (good k s[k].toNat = true) := by
              show _ = _
              unfold good
              rw [← show _ = _ from HLB.out, ← show _ = _ from HNB.out]
              simp; omega
            have dk : ((k : Int) == 0) = false := by simp; omega
            go_wp2
            go_roundw
            case rel => exact ⟨k + 1, by omega, by go_num, by rw [HS.out, HG.out, HB.out]; simp, by first | rfl | trivial⟩
            case measure => simp [intOf]; omega
      · have HG : Hid (good k s[k].toNat = true) := by
          show _ = _
          unfold good
          rw [← show _ = _ from HLB.out, ← show _ = _ from HNB.out]
          rfl
        go_wp2
        go_roundw
        case rel => exact ⟨k + 1, by omega, by go_num, by rw [HS.out, HG.out, HB.out]; simp, by first | rfl | trivial⟩
        case measure => simp [intOf]; omega
    · have hkk : k = s.size := by omega
      have HKS := Lib.hid hkk
      have hlen : s.toList.length = s.size := len_eq s
      subst hkk
      clear HKS
      go_wp2
      obtain ⟨WA, hWA⟩ : ∃ x, x = W.alloc (Obj.cells #[.string ⟨#[80, 65, 84, 84, 69, 82, 78]⟩, .string ⟨#[83, 69, 81]⟩, .string ⟨#[80, 65, 82, 84, 73, 84, 73, 79, 78]⟩, .string ⟨#[66, 89]⟩, .string ⟨#[87, 72, 69, 82, 69]⟩, .string ⟨#[87, 73, 84, 72, 73, 78]⟩, .string ⟨#[82, 69, 84, 85, 82, 78]⟩, .string ⟨#[65, 78, 68]⟩, .string ⟨#[79, 82]⟩, .string ⟨#[78, 79, 84]⟩, .string ⟨#[84, 82, 85, 69]⟩, .string ⟨#[70, 65, 76, 83, 69]⟩, .string ⟨#[84, 89, 80, 69]⟩, .string ⟨#[73, 78, 84]⟩, .string ⟨#[83, 84, 82]⟩, .string ⟨#[66, 79, 79, 76]⟩] 52) := ⟨_, rfl⟩
      rw [← hWA]
      have HC16 : Hid (∀ j, j < 16 → ∃ b : ByteArray, WA.cell? ⟨W.heap.size, j, none⟩ = some (.string b) ∧ words16[j]? = some b.toList) := by
        intro j hj
        rw [hWA]
        exact cells16 W j hj
      have HBA : Hid (Below W.heap.size W WA) := by
        show Below _ _ _
        rw [hWA]
        exact (Below.refl _ _).alloc (Nat.le_refl _) _
      clear hWA
      obtain ⟨X, hX⟩ : ∃ X, X = (okb && goodTo s.toList s.size) := ⟨_, rfl⟩
      rw [← hX]
      have HX := Lib.hid hX
      have HLEN := Lib.hid hlen
      clear hX hlen
      go_loopw [3, 9] (fun o i wr => ∃ j : Nat, j ≤ 16 ∧ i = .int .i64 j ∧ o = .bool (X && !(words16.take j).contains s.toList) ∧ wr = WA) (fun _ i _ => 16 - (intOf i).toNat)
      case atStart => exact ⟨0, by omega, rfl, by simp, rfl⟩
      case round =>
        obtain ⟨j, hj, rfl, rfl, hwr⟩ := hrel
        obtain rfl := hwr.symm
        by_cases hj16 : j < 16
        · obtain ⟨b, hb, hw⟩ := HC16.out j hj16
          have HT : Hid ((words16.take (j + 1)).contains s.toList = ((words16.take j).contains s.toList || b.toList == s.toList)) := take_has hw _
          obtain ⟨Y, hY⟩ : ∃ Y, Y = (X && !(words16.take j).contains s.toList) := ⟨_, rfl⟩
          rw [← hY]
          have HY := Lib.hid hY
          clear hY hw
          cases hq : (b.toList == s.toList)
          · have HQ := Lib.hid hq
            go_wp2
            go_roundw
            case rel => exact ⟨j + 1, by omega, by go_num, by rw [HT.out, HQ.out, HY.out, Bool.or_false], by first | rfl | trivial⟩
            case measure => simp [intOf]; omega
          · have HQ := Lib.hid hq
            go_wp2
            go_roundw
            case rel => exact ⟨j + 1, by omega, by go_num, by rw [HT.out, HQ.out, Bool.or_true, Bool.not_true, Bool.and_false], by first | rfl | trivial⟩
            case measure => simp [intOf]; omega
        · have hj' : j = 16 := by omega
          have HNM : Hid ((X && !(words16.take j).contains s.toList) = nameL s.toList) := by
            show _ = _
            rw [hj', name_is, HX.out, HOK.out, HLEN.out]
            rfl
          rw [HNM.out]
          clear HNM HC16
          have HKA := Lib.hid (HK.out.below HBA.out)
          go_wp2_with fail
          refine (new_any _).mono ?_
          rintro e w2 ⟨rfl, hb2, hc2⟩
          have B2 : Hid (Below W.heap.size W w2) := HBA.out.trans (hb2.mono HBA.out.size)
          have C2 := Lib.hid hc2
          obtain ⟨mB, hmB⟩ : ∃ m, m = WA.heap.size := ⟨_, rfl⟩
          rw [← hmB] at C2 ⊢
          have HM : Hid (W.heap.size ≤ mB) := by show _ ≤ _; rw [hmB]; exact HBA.out.size
          clear hb2 hc2 hmB
          go_wp2_with fail
          refine (name_x _ (HK.out.below B2.out)).mono ?_
          rintro e w3 ⟨rfl, hb3⟩
          have B3 : Hid (Below W.heap.size W w3) := B2.out.trans (hb3.mono B2.out.size)
          have C3 : Hid (Cat w3 (mB + 1) mB #[] 0) := C2.out.below hb3
          clear hb3
          go_wp2_with fail
          refine (name_int _ (HK.out.below B3.out)).mono ?_
          rintro e w4 ⟨rfl, hb4⟩
          have B4 : Hid (Below W.heap.size W w4) := B3.out.trans (hb4.mono B3.out.size)
          have C4 : Hid (Cat w4 (mB + 1) mB #[] 0) := C3.out.below hb4
          clear hb4
          go_wp2_with fail
          cases hnm : nameL s.toList
          · have HNM := Lib.hid hnm
            refine (decl_fault (X := 20) (by decide) (fi_bad HNM.out) (.slice none 0 0) _ _ #[] 0 none w4 (HK.out.below B4.out) (.inl ⟨rfl, rfl⟩) C4.out (found_none _) ⟨_, _, _, _, rfl⟩).mono ?_
            rintro e w5 ⟨rfl, hb5⟩
            have B5 : Hid (Below W.heap.size W w5) := B4.out.trans (hb5.mono B4.out.size)
            have C5 : Hid (Cat w5 (mB + 1) mB #[] 0) := C4.out.below hb5
            clear hb5
            go_wp2_with fail
            refine (decl_fault (name := other) (l := [(s, 1)]) (X := 20) (by decide) (fun F hF => (fi_one other_name F hF).trans (if_pos (attr_of_bad HNM.out))) _ _ _ #[] 0 none _ (HK.out.below (B5.out.alloc B5.out.size _)) (at_one w5 s) (C5.out.below ((Below.refl _ _).alloc (Nat.le_refl _) _)) (found_none _) ⟨_, _, _, _, rfl⟩).mono ?_
            rintro e w6 ⟨rfl, hb6⟩
            have B6 : Hid (Below W.heap.size W w6) := (B5.out.alloc B5.out.size _).trans (hb6.mono (by have := B5.out.size; simp; omega))
            have C6 : Hid (Cat w6 (mB + 1) mB #[] 0) := (C5.out.below ((Below.refl _ _).alloc (Nat.le_refl _) _)).below hb6
            clear hb6
            go_wp2_with fail
            refine (name_any s _ (HK.out.below B6.out)).mono ?_
            rw [HNM.out]
            rintro e w7 ⟨rfl, hb7⟩
            have B7 : Hid (Below W.heap.size W w7) := B6.out.trans (hb7.mono B6.out.size)
            have C7 : Hid (Cat w7 (mB + 1) mB #[] 0) := C6.out.below hb7
            clear hb7
            go_wp2_with fail
            refine (list_empty _ _ _ C7.out).mono ?_
            rintro e w8 ⟨p, c, rfl, hb8⟩
            have B8 : Hid (Below W.heap.size W w8) := B7.out.trans (hb8.mono B7.out.size)
            clear hb8
            go_wp2
            go_ret
            exact ⟨rfl, B8.out⟩
          · have HNM := Lib.hid hnm
            refine (decl_new (fi_nil HNM.out) (.slice none 0 0) _ _ #[] 0 w4 (HK.out.below B4.out) (.inl ⟨rfl, rfl⟩) C4.out (found_none _) (by simp)).mono ?_
            rintro e w5 ⟨rfl, hg5, v5, hc5, hv5⟩
            have B5 : Hid (Below W.heap.size W w5) := below_grown B4.out hg5 B4.out.size HM.out
            have C5 := Lib.hid hc5
            have hl5 : (v5 = .slice none 0 0) := by
              rcases hv5 with ⟨h, _⟩ | ⟨_, _, _, _, h, _⟩
              · exact h
              · simp at h
            subst hl5
            clear hg5 hc5 hv5
            go_wp2_with fail
            have HA5 := Lib.hid (at_one w5 s)
            have HK5 := Lib.hid (HK.out.below (B5.out.alloc B5.out.size (Obj.cells #[.string s, .int .i64 1] 38)))
            have C5' := Lib.hid (C5.out.below ((Below.refl _ _).alloc (Nat.le_refl _) (Obj.cells #[.string s, .int .i64 1] 38)))
            have BA5 := Lib.hid (B5.out.alloc B5.out.size (Obj.cells #[.string s, .int .i64 1] 38))
            cases ho : (s.toList == [79, 116, 104, 101, 114])
            · have HNE : Hid (other ≠ s) := fun e => by rw [← e, ByteArray.toList_eq] at ho; exact absurd ho (by decide)
              have HO := Lib.hid ho
              cases htm : (s.toList == [116, 105, 109, 101])
              · refine (decl_new (name := other) (l := [(s, 1)]) (fun F hF => (fi_one other_name F hF).trans (if_neg (by rw [attr_ok HNM.out htm]; decide))) _ _ _ _ 1 _ HK5.out HA5.out C5'.out (found_other HNE.out _) (by simp)).mono ?_
                rintro e w6 ⟨rfl, hg6, v6, hc6, hv6⟩
                have B6 : Hid (Below W.heap.size W w6) := below_grown BA5.out hg6 BA5.out.size HM.out
                clear hg6 hc6 hv6
                go_wp2_with fail
                refine (name_any s _ (HK.out.below B6.out)).mono ?_
                rw [HNM.out]
                rintro e w7 ⟨rfl, hb7⟩
                have B7 : Hid (Below W.heap.size W w7) := B6.out.trans (hb7.mono B6.out.size)
                clear hb7
                go_wp2
                go_ret
                exact ⟨rfl, B7.out⟩
              · refine (decl_fault (name := other) (l := [(s, 1)]) (X := 20) (by decide) (fun F hF => (fi_one other_name F hF).trans (if_pos (attr_time htm))) _ _ _ _ 1 none _ HK5.out HA5.out C5'.out (found_other HNE.out _) ⟨_, _, _, _, rfl⟩).mono ?_
                rintro e w6 ⟨rfl, hb6⟩
                have B6 : Hid (Below W.heap.size W w6) := BA5.out.trans (hb6.mono BA5.out.size)
                clear hb6
                go_wp2_with fail
                refine (name_any s _ (HK.out.below B6.out)).mono ?_
                rw [HNM.out]
                rintro e w7 ⟨rfl, hb7⟩
                have B7 : Hid (Below W.heap.size W w7) := B6.out.trans (hb7.mono B6.out.size)
                clear hb7
                go_wp2
                go_ret
                exact ⟨rfl, B7.out⟩
            · have hso : s = other := eq_of_list (beq_iff_eq.1 ho)
              have HF : Hid (Found ((#[] : Array MapEntry).push { key := .string s, val := .agg #[.string s, .slice none 0 0], born := 0 }) other (some (0, .agg #[.string s, .slice none 0 0]))) := by
                have := found_same s (.agg #[.string s, .slice none 0 0])
                rw [← hso]
                exact this
              have HAT : Hid (attrL s.toList = true) := by show _ = _; rw [hso]; exact other_attr
              clear hso
              refine (decl_found (name := other) (l := [(s, 1)]) (fun F hF => (fi_one other_name F hF).trans (if_neg (by rw [HAT.out]; decide))) _ _ _ _ 1 _ _ HK5.out HA5.out C5'.out HF.out ⟨_, _, _, _, rfl⟩).mono ?_
              rintro e w6 ⟨rfl, hb6⟩
              have B6 : Hid (Below W.heap.size W w6) := BA5.out.trans (hb6.mono BA5.out.size)
              clear hb6
              go_wp2_with fail
              refine (name_any s _ (HK.out.below B6.out)).mono ?_
              rw [HNM.out]
              rintro e w7 ⟨rfl, hb7⟩
              have B7 : Hid (Below W.heap.size W w7) := B6.out.trans (hb7.mono B6.out.size)
              clear hb7
              go_wp2
              go_ret
              exact ⟨rfl, B7.out⟩
end Go.Proofs.YtpfpganlghjhjaaDoor.lawNames
