/- Contract of the reference's Int. -/
import Derived.Test.YtlinpkmfjkcoiaaDoorH3
import Derived.Deep.RegionLaw
import Derived.IntWalk
import Derived.Deep.CutBlock
import Derived.Deep.DeepCutAuto
import Derived.Deep.CutRange
namespace Go.Proofs.YtlinpkmfjkcoiaaDoor
open Go Go.RowKit
set_option maxHeartbeats 1000000
set_option linter.unusedVariables false
set_option linter.unusedSimpArgs false
theorem run_front1 (p : Option Addr) (k n c : Nat) (hk : k + 1 ≤ c) (w : World) : (Instr.slice 25 (.slice p n c) none (some (.int .i64 ((k : Int) + 1))) none).run Tryd.prog w = .ok (.slice p (k + 1) c) w := by
  have := run_front p (k + 1) n c hk w
  rw [← this]
  rfl
attribute [local go_sem ↓] run_front run_front1
theorem In.take {w : World} {p : Option Addr} {l : List UInt8} (h : In w p l) (n : Nat) : In w p (l.take n) := by
  intro i hi
  obtain ⟨b, o, e, c⟩ := h i (by rw [List.length_take] at hi; omega)
  exact ⟨b, o, e, by rw [List.getElem_take]; exact c⟩
set_option maxRecDepth 100000 in
theorem refInt_any (p : Option Addr) (c : Nat) (l : List UInt8) (w : World) (h : In w p l) (hc : l.length ≤ c) (hm : c ≤ maxLen) : Calls Tryd.prog 25 #[.slice p l.length c] w (IntIs w l) := by
  obtain ⟨m, hml⟩ : ∃ m, m = l.length := ⟨_, rfl⟩
  have HM := Lib.hid hml
  have HI := Lib.hid h
  have hcm : c ≤ 9223372036854775807 := by unfold maxLen at hm; exact hm
  rw [← hml] at hc ⊢
  clear hml h hm
  go_enter Tryd.func25, Tryd.ntmps25
  go_wp2
  go_loop [5] (fun i => ∃ k : Nat, k ≤ m ∧ k ≤ 10 ∧ i = .int .i64 k ∧ Lead l k) (fun i => 10 - (intOf i).toNat)
  case atStart => exact ⟨0, Nat.zero_le _, by omega, rfl, Lead.zero l⟩
  case round =>
    obtain ⟨k, hk, hk10, rfl, hlead⟩ := hrel
    have HL := Lib.hid hlead
    clear hlead
    by_cases hlt : k < m
    · have hkl : k < l.length := by rw [← HM.out]; exact hlt
      obtain ⟨b, o, rfl, d⟩ := HI.out k hkl
      obtain ⟨x, hx⟩ : ∃ x, x = l[k].toNat := ⟨_, rfl⟩
      rw [← hx] at d
      have HX := Lib.hid hx
      have dl : decide ((k : Int) < (m : Int)) = true := by simp; omega
      clear hx
      by_cases h10 : k < 10
      · have d10 : decide ((k : Int) < 10) = true := by simp; omega
        by_cases h128 : 128 ≤ x
        · have d128 : decide ((128 : Int) ≤ (x : Int)) = true := by simp; omega
          go_wp2
          go_round
          case rel => exact ⟨k + 1, by omega, by omega, by go_num, HL.out.succ hkl (by rw [← HX.out]; exact h128)⟩
          case measure => simp [intOf]; omega
        · have d128 : decide ((128 : Int) ≤ (x : Int)) = false := by simp; omega
          have e10 : ((k : Int) == 10) = false := by simp; omega
          by_cases h9 : k = 9 ∧ 1 < x
          · obtain ⟨rfl, hx1⟩ := h9
            have e9 : (((9 : Nat) : Int) == 9) = true := by simp
            have dx : decide ((1 : Int) < (x : Int)) = true := by simp; omega
            have hnum : Hid (num l = .bad 31) := num_great hkl HL.out (by rw [← HX.out]; exact hx1)
            go_wp2
            first | go_ret3 | skip
            refine ⟨Below.refl _ _, ?_⟩
            rw [hnum.out]
            exact ⟨rfl, by decide⟩
          · skip
            have HXB : Hid (x < 128) := by show _ < _; omega
            have HX9 : Hid (k = 9 → x ≤ 1) := fun h => by
              rcases Nat.lt_or_ge 1 x with h2 | h2
              · exact absurd ⟨h, h2⟩ h9
              · exact h2
            have e9 : ∃ b9 : Bool, ((k : Int) == 9) = b9 := ⟨_, rfl⟩
            have hkk9 : k ≤ 9 := by omega
            have ekm : ((k : Int) == (m : Int)) = false := by simp; omega
            have hx0 : (k = 9 ∧ ((k : Int) == 9) = true ∧ decide ((1 : Int) < (x : Int)) = false) ∨ (((k : Int) == 9) = false) := by
              by_cases h : k = 9
              · exact .inl ⟨h, by simp; omega, by simp; omega⟩
              · exact .inr (by simp; omega)
            clear e9
            have HNL : Hid (((put (zag (zval (l.take (k + 1)))) == l.take (k + 1)) = true ∧ num l = .ok (zag (zval (l.take (k + 1)))) (k + 1)) ∨ ((put (zag (zval (l.take (k + 1)))) == l.take (k + 1)) = false ∧ num l = .bad 31)) :=
              num_last hkl hkk9 HL.out (by rw [← HX.out]; exact HXB.out) (by rw [← HX.out]; exact HX9.out)
            have HZ64 : Hid (zval (l.take (k + 1)) < 18446744073709551616) := zval_64 hkl hkk9 (by rw [← HX.out]; exact HX9.out)
            have HST : Hid (∀ i (hi : i ≤ k) (y : Nat), y = (l[i]'(by omega)).toNat → IntKind.u64.wrap (((zval (l.take i) : Nat) : Int) + IntKind.u64.wrap ((y : Int) % 128 * ((128 ^ i % 18446744073709551616 : Nat) : Int))) = ((zval (l.take (i + 1)) : Nat) : Int)) :=
              fun i hi y hy => zstep hkl hkk9 (by rw [← HX.out]; exact HX9.out) hi y hy
            have d9 : k = 9 → w.cell? ⟨b, o + 9, none⟩ = some (.int .u8 (x : Int)) := fun h => by subst h; exact d
            have m9 : k = 9 → (9 : Int) < (m : Int) := fun h => by omega
            clear HX9
            rcases hx0 with ⟨h, g9, gx⟩ | g9
            have d9' := d9 h
            have m9' := m9 h
            have HK9 := Lib.hid h
            all_goals
              clear h9 d9 m9
            clear h
            all_goals
              go_upto_region 8 with fail
              go_wp2
              go_loop [6, 7, 8] (fun z t i => ∃ j : Nat, j ≤ k + 1 ∧ i = .int .i64 j ∧ z = .int .u64 (zval (l.take j)) ∧ t = .int .u64 ((128 ^ j % 18446744073709551616 : Nat) : Int)) (fun _ _ i => k + 2 - (intOf i).toNat)
              case atStart => exact ⟨0, by omega, rfl, by simp [zval], by simp⟩
              case round =>
                obtain ⟨j, hj, rfl, rfl, rfl⟩ := hrel
                by_cases hjk : j ≤ k
                · have hjl : j < l.length := by have := HM.out; omega
                  obtain ⟨b', o', e', dj⟩ := HI.out j hjl
                  simp only [Option.some.injEq, Addr.mk.injEq, and_true] at e'
                  obtain ⟨rfl, rfl⟩ := e'
                  obtain ⟨y, hy⟩ : ∃ y, y = (l[j]'hjl).toNat := ⟨_, rfl⟩
                  rw [← hy] at dj
                  have HS1 := Lib.hid (HST.out j hjk y hy)
                  have HT1 := Lib.hid (tstep j)
                  have dj2 : decide ((j : Int) ≤ (k : Int)) = true := by simp; omega
                  have hjm : j < m := by omega
                  obtain ⟨zz, hzz⟩ : ∃ zz, zz = zval (l.take j) := ⟨_, rfl⟩
                  obtain ⟨tt, htt⟩ : ∃ tt, tt = 128 ^ j % 18446744073709551616 := ⟨_, rfl⟩
                  rw [← hzz, ← htt] at HS1
                  rw [← htt] at HT1
                  rw [← hzz, ← htt]
                  clear hzz htt hy
                  go_wp2
                  go_round
                  case rel => exact ⟨j + 1, by omega, by go_num, by rw [HS1.out], by rw [HT1.out]⟩
                  case measure => simp [intOf]; omega
                · have hjj : j = k + 1 := by omega
                  have dj2 : decide ((j : Int) ≤ (k : Int)) = false := by simp; omega
                  subst hjj
                  obtain ⟨zz, hzz⟩ : ∃ zz, zz = zval (l.take (k + 1)) := ⟨_, rfl⟩
                  rw [← hzz] at HNL HZ64 ⊢
                  have HZZ := Lib.hid hzz
                  have hz64 := HZ64.out
                  clear hzz
                  obtain ⟨v, hv⟩ : ∃ v, v = zag zz := ⟨_, rfl⟩
                  have HVI : Hid (I64 v) := by show I64 v; rw [hv]; exact zag_in hz64
                  rw [← hv] at HNL
                  have hpar : (((zz : Int) % 2 == 1) = true ∧ v = -((zz : Int) / 2) - 1) ∨ (((zz : Int) % 2 == 1) = false ∧ v = (zz : Int) / 2) := by
                    rw [hv]
                    unfold zag
                    by_cases hp : zz % 2 = 1
                    · rw [if_pos hp]; exact .inl ⟨by simp; omega, by omega⟩
                    · rw [if_neg hp]; exact .inr ⟨by simp; omega, by omega⟩
                  have hkc : k + 1 ≤ c := by omega
                  clear hv
                  rcases hpar with ⟨hp, hv⟩ | ⟨hp, hv⟩
                  all_goals
                    have HV := Lib.hid hv
                    clear hv
                    go_upto_region 17 with fail
                    rw [← show v = _ from HV.out]
                    obtain ⟨L, hLL⟩ : ∃ L, L = put v := ⟨_, rfl⟩
                    obtain ⟨M, hMM⟩ : ∃ M, M = l.take (k + 1) := ⟨_, rfl⟩
                    rw [← hLL, ← hMM] at HNL
                    have HML : Hid (M.length = k + 1) := by show _ = _; rw [hMM, List.length_take]; omega
                    have HMI : Hid (In w (some ⟨b, o, none⟩) M) := by show In _ _ _; rw [hMM]; exact In.take HI.out _
                    have HPUT : Hid (∀ wx, Below w.heap.size w wx → Calls Tryd.prog 23 #[.int .i64 v] wx fun e w' => ∃ q d, e = .returned (.slice q L.length d) ∧ Below w.heap.size w w' ∧ In w' q L) := fun wx hx => by rw [hLL]; exact (refPut_any v HVI.out wx).mono fun e w' ⟨q, d, he, ho, hw⟩ => ⟨q, d, he, hx.trans ((hw.below (Out.nil wx wx.heap.size) (Nat.le_refl _)).mono hx.size), ho.inn.1⟩
                    have HSM : Hid (∀ wx q d, Below w.heap.size w wx → In wx q L → Calls Tryd.prog 54 #[.slice q L.length d, .slice (some ⟨b, o, none⟩) (k + 1) c] wx fun e w' => e = .returned (.bool (L == M)) ∧ Below w.heap.size w w') := fun wx q d hx hq => by
                      have h1 := (refSame_any L M q (some ⟨b, o, none⟩) d c wx hq (HMI.out.below hx) (by rw [hLL]; have := put_len HVI.out; unfold maxLen; omega) (by rw [HML.out]; unfold maxLen; omega))
                      rw [HML.out] at h1
                      exact h1.mono fun e w' ⟨he, hb⟩ => ⟨he, hx.trans (hb.mono hx.size)⟩
                    clear hLL hMM
                    go_cut [82] from 75 to 82 (fun s wx => s = .bool (!(L == M)) ∧ Below w.heap.size w wx)
                    case first =>
                      have f3 : (k : Int) + 1 ≤ (c : Int) := by omega
                      have f2 : 0 ≤ (k : Int) + 1 := by omega
                      have f4 : ((k : Int) + 1).toNat = k + 1 := by omega
                      have f1 : IntKind.i64.wrap ((k : Int) + 1) = (k : Int) + 1 := IntWalk.i64_in _ (by omega)
                      clear dj2 ekm e10 d128 dl d10 hcm HST
                      go_region_law (first | (go_simp; go_at_call 23; refine (HPUT.out w.drew (Below.refl _ _).drew).mono ?_; rintro e w2 ⟨q, d2, rfl, hb2, hin2⟩; have HB2 := Lib.hid hb2; have HIN2 := Lib.hid hin2; clear hb2 hin2) | (go_simp; go_at_call 54; refine (HSM.out _ _ _ HB2.out HIN2.out).mono ?_; rintro e w3 ⟨rfl, hb3⟩; have HB3 := Lib.hid hb3; clear hb3))
                      all_goals
                        go_wp2
                        go_meet
                        exact ⟨rfl, HB3.out⟩
                    case rest =>
                    obtain ⟨rfl, hwb⟩ := hcut
                    have HWB := Lib.hid hwb
                    clear hwb
                    rcases HNL.out with ⟨hq, hnum⟩ | ⟨hq, hnum⟩
                    · have HNUM := Lib.hid hnum
                      rw [hq]
                      clear hnum hq
                      go_wp2
                      first | go_ret3 | skip
                      refine ⟨HWB.out, ?_⟩
                      rw [HNUM.out]
                      rfl
                    · have HNUM := Lib.hid hnum
                      rw [hq]
                      clear hnum hq
                      go_wp2
                      first | go_ret3 | skip
                      refine ⟨HWB.out, ?_⟩
                      rw [HNUM.out]
                      exact ⟨rfl, by decide⟩
      · have hk : k = 10 := by omega
        subst hk
        have e10 : (((10 : Nat) : Int) == 10) = true := by simp
        have d10 : decide (((10 : Nat) : Int) < 10) = false := by simp
        have hnum : Hid (num l = .bad 31) := num_great (by omega) (fun j hj hjn => HL.out j hj (by omega)) (by have := HL.out 9 (by omega) (by omega); omega)
        go_wp2
        first | go_ret3 | skip
        refine ⟨Below.refl _ _, ?_⟩
        rw [hnum.out]
        exact ⟨rfl, by decide⟩
    · have dl : decide ((k : Int) < (m : Int)) = false := by simp; omega
      have hkm : k = m := by omega
      have HKM := Lib.hid hkm
      by_cases hk10' : k = 10
      · have e10 : ((k : Int) == 10) = true := by simp; omega
        have HK10 := Lib.hid hk10'
        have hnum : Hid (num l = .bad 31) := num_great (by have := HM.out; omega) (fun j hj hjn => HL.out j hj (by omega)) (by have := HL.out 9 (by have := HM.out; omega) (by omega); omega)
        clear hkm hk10'
        go_wp2
        first | go_ret3 | skip
        refine ⟨Below.refl _ _, ?_⟩
        rw [hnum.out]
        exact ⟨rfl, by decide⟩
      · have e10 : ((k : Int) == 10) = false := by simp; omega
        have ekm : ((k : Int) == (m : Int)) = true := by simp; omega
        have hnum : Hid (num l = .bad 30) := num_end (by have := HM.out; omega) (by have := HM.out; have h := HL.out; rw [hkm, this] at h; exact h)
        have hx0 : (((k : Int) == 9) = true) ∨ (((k : Int) == 9) = false) := by cases ((k : Int) == 9) <;> simp
        clear hkm hk10'
        rcases hx0 with g9 | g9
        · go_wp2
          first | go_ret3 | skip
          refine ⟨Below.refl _ _, ?_⟩
          rw [hnum.out]
          exact ⟨rfl, by decide⟩
        · go_wp2
          first | go_ret3 | skip
          refine ⟨Below.refl _ _, ?_⟩
          rw [hnum.out]
          exact ⟨rfl, by decide⟩
end Go.Proofs.YtlinpkmfjkcoiaaDoor
