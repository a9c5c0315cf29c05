/- Contract of the document's own answer's can. Contract of the document's own answer's one. Contract of the document's own answer's Scan. Contract of the document's own answer's quoted. -/
import Derived.Test.YtdafnkfnaknoiaaDoorT17
import Derived.Test.YtdafnkfnaknoiaaDoorT9
import Derived.Test.YtdafnkfnaknoiaaDoorG7
import Derived.Test.YtdafnkfnaknoiaaDoorK3
namespace Go.Proofs.YtdafnkfnaknoiaaDoor
open Go Go.RowKit
set_option maxHeartbeats 4000000
set_option linter.unusedVariables false
set_option linter.unusedSimpArgs false
theorem nat_beq (a b : Nat) : ((a : Int) == (b : Int)) = decide (a = b) := by
  by_cases h : a = b
  · subst h; simp
  · rw [decide_eq_false h]; simp; omega
set_option maxRecDepth 100000 in
theorem can_r (k : Int) (s : ByteArray) (a : Int) (last : Bool) (hs : s.size ≤ 140737488355328) (w : World) : Calls Tryd.prog 41 #[.agg #[.int .i64 k, .string s, .int .i64 a], .bool last] w fun e w' => e = .returned (.bool (canB k s.data.toList last)) ∧ Below w.heap.size w w' := by
  have hl : s.data.toList.length = s.size := by simp
  have hv : (s.size : Int) ≤ 140737488355328 := by omega
  have HB1 : Hid (∀ o, Below w.heap.size w (w.alloc o)) := fun o => (Below.refl _ _).alloc (Nat.le_refl _) o
  have HB2 : Hid (∀ o o', Below w.heap.size w ((w.alloc o).alloc o')) := fun o o' => ((Below.refl _ _).alloc (Nat.le_refl _) o).alloc (by simp) o'
  have HRUN : Hid (∀ b wx, Calls Tryd.prog 57 #[.string s, .int .i64 0, .bool b] wx fun e w' => e = .returned (.int .i64 (rl b s.data.toList : Nat)) ∧ w' = wx) := fun b wx => by
    have := run_r s 0 b (Nat.zero_le _) hs wx
    rw [List.drop_zero, Nat.zero_add] at this
    exact this
  by_cases k1 : k = 1
  · subst k1
    have hcan : canB 1 s.data.toList last = (decide (0 < s.size) && (decide (s.size ≤ 32) && (headLt s.data.toList && decide (rl true s.data.toList = s.size)))) := by
      unfold canB
      rw [if_pos rfl, hl]
    by_cases h0 : 0 < s.size
    · by_cases h32 : s.size ≤ 32
      · have v32 : (s.size : Int) ≤ 32 := by omega
        have hd := drop_at h0
        rw [List.drop_zero] at hd
        obtain ⟨n, hn⟩ : ∃ n : Nat, n = (s[0]'h0).toNat := ⟨_, rfl⟩
        have F0 : ((s[0]'h0).toNat : Int) = n := by rw [hn]
        obtain ⟨L0, hL0⟩ : ∃ L0, L0 = ltu (n : Int) := ⟨_, rfl⟩
        have HL : Hid (∀ wx, Calls Tryd.prog 56 #[.int .u8 n] wx fun e w' => e = .returned (.bool L0) ∧ w' = wx) := fun wx => by rw [hL0]; exact letter_r _ wx
        have hh : headLt s.data.toList = L0 := by rw [hd, headLt, hL0, hn]
        rw [hh, decide_eq_true h0, decide_eq_true h32] at hcan
        clear hd hn hL0 hh hl
        cases L0
        · have HC : Hid (canB 1 s.data.toList last = false) := hcan
          clear hcan
          go_enter Tryd.func41, Tryd.ntmps41
          go_wp2_with (first | (go_at_call 56; refine (HL.out _).mono ?_; rintro e w' ⟨rfl, hw'⟩; obtain rfl := hw'.symm))
          go_ret
          exact ⟨by rw [HC.out]; rfl, HB1.out _⟩
        · have hcan2 : canB 1 s.data.toList last = ((rl true s.data.toList : Int) == (s.size : Int)) := by
            rw [hcan, nat_beq]
            rfl
          have HR := HRUN.out true
          obtain ⟨r, hr⟩ : ∃ r, r = rl true s.data.toList := ⟨_, rfl⟩
          rw [← hr] at hcan2 HR
          have HR2 := Lib.hid HR
          obtain ⟨b, hb⟩ : ∃ b, ((r : Int) == (s.size : Int)) = b := ⟨_, rfl⟩
          rw [hb] at hcan2
          have HC := Lib.hid hcan2
          clear hcan hcan2 hr HR
          go_enter Tryd.func41, Tryd.ntmps41
          go_wp2_with (first | (go_at_call 56; refine (HL.out _).mono ?_; rintro e w' ⟨rfl, hw'⟩; obtain rfl := hw'.symm) | (go_at_call 57; refine (HR2.out _).mono ?_; rintro e w' ⟨rfl, hw'⟩; obtain rfl := hw'.symm))
          go_ret
          exact ⟨by rw [HC.out]; rfl, HB1.out _⟩
      · have v32 : ¬ (s.size : Int) ≤ 32 := by omega
        have HC : Hid (canB 1 s.data.toList last = false) := by
          show _ = _
          rw [hcan, decide_eq_false h32]
          simp
        clear hcan h32 hl
        go_enter Tryd.func41, Tryd.ntmps41
        go_wp2
        go_ret
        exact ⟨by rw [HC.out]; rfl, HB1.out _⟩
    · have HC : Hid (canB 1 s.data.toList last = false) := by
        show _ = _
        rw [hcan, decide_eq_false h0]
        simp
      clear hcan hl
      go_enter Tryd.func41, Tryd.ntmps41
      go_wp2
      go_ret
      exact ⟨by rw [HC.out]; rfl, HB1.out _⟩
  by_cases k2 : k = 2
  · subst k2
    have hcan : canB 2 s.data.toList last = (decide (0 < s.size) && (decide (rl false s.data.toList = s.size) && smallB s.data.toList)) := by
      unfold canB
      rw [if_neg (by decide), if_pos rfl, hl]
    by_cases h0 : 0 < s.size
    · rw [decide_eq_true h0, Bool.true_and, ← nat_beq] at hcan
      have HR := HRUN.out false
      obtain ⟨r, hr⟩ : ∃ r, r = rl false s.data.toList := ⟨_, rfl⟩
      rw [← hr] at hcan HR
      have HR2 := Lib.hid HR
      obtain ⟨b, hb⟩ : ∃ b, ((r : Int) == (s.size : Int)) = b := ⟨_, rfl⟩
      rw [hb] at hcan
      obtain ⟨S, hS⟩ : ∃ S, S = smallB s.data.toList := ⟨_, rfl⟩
      have HSM : Hid (∀ wx, Calls Tryd.prog 59 #[.string s] wx fun e w' => e = .returned (.bool S) ∧ w' = wx) := fun wx => by rw [hS]; exact small_r s wx
      rw [← hS] at hcan
      have HC := Lib.hid hcan
      clear hcan hr HR hl hS k1
      cases b
      · go_enter Tryd.func41, Tryd.ntmps41
        go_wp2_with (first | (go_at_call 57; refine (HR2.out _).mono ?_; rintro e w' ⟨rfl, hw'⟩; obtain rfl := hw'.symm))
        go_ret
        exact ⟨by rw [HC.out]; rfl, HB1.out _⟩
      · go_enter Tryd.func41, Tryd.ntmps41
        go_wp2_with (first | (go_at_call 57; refine (HR2.out _).mono ?_; rintro e w' ⟨rfl, hw'⟩; obtain rfl := hw'.symm) | (go_at_call 59; refine (HSM.out _).mono ?_; rintro e w' ⟨rfl, hw'⟩; obtain rfl := hw'.symm))
        go_ret
        exact ⟨by rw [HC.out]; rfl, HB1.out _⟩
    · have HC : Hid (canB 2 s.data.toList last = false) := by
        show _ = _
        rw [hcan, decide_eq_false h0]
        simp
      clear hcan hl k1
      go_enter Tryd.func41, Tryd.ntmps41
      go_wp2
      go_ret
      exact ⟨by rw [HC.out]; rfl, HB1.out _⟩
  by_cases k3 : k = 3
  · subst k3
    have hcan : canB 3 s.data.toList last = decide ((s.size : Int) ≤ 256) := by
      unfold canB
      rw [if_neg (by decide), if_neg (by decide), if_pos rfl, hl]
      by_cases h : s.size ≤ 256
      · rw [decide_eq_true h, decide_eq_true (by omega)]
      · rw [decide_eq_false h, decide_eq_false (by omega)]
    have HC := Lib.hid hcan
    clear hcan hl k1 k2
    go_enter Tryd.func41, Tryd.ntmps41
    go_wp2
    go_ret
    exact ⟨by rw [HC.out]; first | rfl | simp, HB1.out _⟩
  by_cases k4 : k = 4
  · subst k4
    have hcan : canB 4 s.data.toList last = inL sgL s.data.toList := by
      unfold canB
      rw [if_neg (by decide), if_neg (by decide), if_neg (by decide), if_pos rfl]
    have HC := Lib.hid hcan
    have HA : Hid (∀ (wx : World) (n g : Nat), g = wx.heap.size → Calls Tryd.prog 43 #[.slice (some ⟨g, 0, none⟩) 19 19, .string s] ((wx.alloc (.cells sgV 9)).drewN n) fun e w' => e = .returned (.bool (inL sgL s.data.toList)) ∧ w' = (wx.alloc (.cells sgV 9)).drewN n) := fun wx n g hg => by
      subst hg
      exact among_r wx.heap.size sgL s _ (by decide) (fun j hj => list_at sgV_eq wx 9 j hj)
    clear hcan hl k1 k2 k3
    go_enter Tryd.func41, Tryd.ntmps41
    go_wp2
    go_region_with (first | (go_at_call 61; refine (signs_r _).mono ?_; rintro e w' ⟨rfl, hw⟩; obtain rfl := hw.symm) | (go_at_call 43; refine (HA.out _ _ _ (by first | rfl | simp)).mono ?_; rintro e w' ⟨rfl, hw⟩; obtain rfl := hw.symm))
    all_goals (go_wp2; go_ret)
    all_goals exact ⟨by rw [HC.out]; rfl, by repeat (first | exact Below.refl _ _ | apply Below.drew | apply below_drewN | refine Below.alloc ?_ (by simp) _)⟩
  by_cases k5 : k = 5
  · subst k5
    have hcan : canB 5 s.data.toList last = (((s.size : Int) == 0) && last) := by
      unfold canB
      rw [if_neg (by decide), if_neg (by decide), if_neg (by decide), if_neg (by decide), if_pos rfl, hl]
      rw [show (0 : Int) = ((0 : Nat) : Int) from rfl, nat_beq]
    obtain ⟨b, hb⟩ : ∃ b, ((s.size : Int) == 0) = b := ⟨_, rfl⟩
    rw [hb] at hcan
    have HC := Lib.hid hcan
    clear hcan hl k1 k2 k3 k4
    cases b
    · go_enter Tryd.func41, Tryd.ntmps41
      go_wp2
      go_ret
      exact ⟨by rw [HC.out]; rfl, HB1.out _⟩
    · go_enter Tryd.func41, Tryd.ntmps41
      go_wp2
      go_ret
      exact ⟨by rw [HC.out]; rfl, HB1.out _⟩
  · have hcan : canB k s.data.toList last = false := by
      unfold canB
      rw [if_neg k1, if_neg k2, if_neg k3, if_neg k4, if_neg k5]
    have HC := Lib.hid hcan
    have e1 : (k == 1) = false := by simpa using k1
    have e2 : (k == 2) = false := by simpa using k2
    have e3 : (k == 3) = false := by simpa using k3
    have e4 : (k == 4) = false := by simpa using k4
    have e5 : (k == 5) = false := by simpa using k5
    clear hcan hl k1 k2 k3 k4 k5
    go_enter Tryd.func41, Tryd.ntmps41
    go_wp2
    go_ret
    exact ⟨by rw [HC.out]; rfl, HB1.out _⟩
end Go.Proofs.YtdafnkfnaknoiaaDoor
namespace Go.Proofs.YtdafnkfnaknoiaaDoor
open Go Go.RowKit
set_option maxHeartbeats 40000000
set_option linter.unusedVariables false
set_option linter.unusedSimpArgs false
/-- what the document's reader of one token answers -/
def gotO (p : Nat) : Stp → Value
  | .tok k s n => .agg #[.int .i64 k, .string ⟨s.toArray⟩, .int .i64 p, .int .i64 ((p + n : Nat) : Int), .int .i64 0, .int .i64 0]
  | .bad E q => .agg #[.int .i64 0, .string ⟨#[]⟩, .int .i64 0, .int .i64 0, .int .i64 q, .int .i64 E]
  | _ => undef
theorem ext_take (s : ByteArray) (i j : Nat) : (⟨((s.data.toList.drop i).take (j - i)).toArray⟩ : ByteArray) = s.extract i j := by
  rw [ByteArray.ext_iff, ByteArray.data_extract]
  apply Array.toList_inj.1
  rw [Array.toList_extract, List.extract_eq_take_drop]
theorem ext_list (s : ByteArray) (i j : Nat) : (s.extract i j).data.toList = (s.data.toList.drop i).take (j - i) := by
  rw [← ext_take]
theorem prefix_ext (s : ByteArray) (i : Nat) (x : ByteArray) : x.data.toList.isPrefixOf (s.data.toList.drop i) = (decide (i + x.size ≤ s.size) && ((s.extract i (i + x.size)).toList == x.toList) || (x.size == 0)) := by
  have hx : x.data.toList.length = x.size := by simp
  have hl : (s.data.toList.drop i).length = s.size - i := by simp
  rw [ByteArray.toList_eq, ByteArray.toList_eq, ext_list, show i + x.size - i = x.size by omega, Bool.eq_iff_iff, List.isPrefixOf_iff_prefix, List.prefix_iff_eq_take, hx]
  simp only [Bool.or_eq_true, Bool.and_eq_true, decide_eq_true_eq, beq_iff_eq]
  constructor
  · intro h
    by_cases h0 : x.size = 0
    · exact .inr h0
    · have := congrArg List.length h
      rw [List.length_take, hx, hl] at this
      exact .inl ⟨by omega, h.symm⟩
  · rintro (⟨_, h⟩ | h)
    · exact h.symm
    · rw [h, List.take_zero]
      exact List.length_eq_zero_iff.1 (by omega)
theorem sg_sizes : ∀ x ∈ sgL, x.length = 1 ∨ x.length = 2 := by decide
set_option maxRecDepth 100000 in
theorem one_r (s : ByteArray) (i : Nat) (hi : i < s.size) (hsz : s.size ≤ 140737488355328) (hR : Rest (s.data.toList.drop i)) (w : World) : Calls Tryd.prog 40 #[.string s, .int .i64 i] w fun e w' => e = .returned (gotO i (stepL (s.data.toList.drop i) i)) ∧ Below w.heap.size w w' := by
  have hv2 : (s.size : Int) ≤ 140737488355328 := by omega
  have hv1 : (i : Int) < (s.size : Int) := by omega
  have hd := drop_at hi
  obtain ⟨hnb, hnn⟩ : blankB s[i] = false ∧ ¬ (s[i] = 45 ∧ (s.data.toList.drop (i + 1)).head? = some 45) := by
    rcases hR with h | ⟨c, t, h, h1, h2⟩
    · rw [hd] at h; cases h
    · rw [hd] at h
      injection h with ha hb
      subst ha
      subst hb
      exact ⟨h1, h2⟩
  have hlen : (s.data.toList.drop i).length = s.size - i := by simp
  obtain ⟨n, hn⟩ : ∃ n : Nat, n = s[i].toNat := ⟨_, rfl⟩
  have F0 : (s[i].toNat : Int) = n := by rw [hn]
  obtain ⟨wE, hwE⟩ : ∃ wE, wE = w.alloc (.cells #[.int .i64 0, .string ⟨#[]⟩, .int .i64 0, .int .i64 0, .int .i64 0, .int .i64 0] 76) := ⟨_, rfl⟩
  have ER : R6 wE w.heap.size := by rw [hwE]; exact R6.fresh w
  have EZ : wE.heap.size = w.heap.size + 1 := by rw [hwE]; simp
  have EB : Below w.heap.size w wE := by rw [hwE]; exact (Below.refl _ _).alloc (Nat.le_refl _) _
  obtain ⟨c0, c1, c2, c3, c4, c5⟩ : wE.cell? ⟨w.heap.size, 0, none⟩ = some (.int .i64 0) ∧ wE.cell? ⟨w.heap.size, 1, none⟩ = some (.string ⟨#[]⟩) ∧ wE.cell? ⟨w.heap.size, 2, none⟩ = some (.int .i64 0) ∧ wE.cell? ⟨w.heap.size, 3, none⟩ = some (.int .i64 0) ∧ wE.cell? ⟨w.heap.size, 4, none⟩ = some (.int .i64 0) ∧ wE.cell? ⟨w.heap.size, 5, none⟩ = some (.int .i64 0) :=
    ⟨ER.c 0 _ rfl, ER.c 1 _ rfl, ER.c 2 _ rfl, ER.c 3 _ rfl, ER.c 4 _ rfl, ER.c 5 _ rfl⟩
  obtain ⟨z0, z1, z2, z3, z4, z5⟩ : wE.frozen? ⟨w.heap.size, 0, none⟩ = false ∧ wE.frozen? ⟨w.heap.size, 1, none⟩ = false ∧ wE.frozen? ⟨w.heap.size, 2, none⟩ = false ∧ wE.frozen? ⟨w.heap.size, 3, none⟩ = false ∧ wE.frozen? ⟨w.heap.size, 4, none⟩ = false ∧ wE.frozen? ⟨w.heap.size, 5, none⟩ = false :=
    ⟨ER.z 0 (by omega), ER.z 1 (by omega), ER.z 2 (by omega), ER.z 3 (by omega), ER.z 4 (by omega), ER.z 5 (by omega)⟩
  have hNlt : w.heap.size < wE.heap.size := by omega
  have HER := Lib.hid ER
  have HEZ := Lib.hid EZ
  have HEB := Lib.hid EB
  have HWE : Hid (w.alloc (.cells #[.int .i64 0, .string ⟨#[]⟩, .int .i64 0, .int .i64 0, .int .i64 0, .int .i64 0] 76) = wE) := hwE.symm
  clear hwE ER EZ EB
  obtain ⟨L0, hL0⟩ : ∃ L0, L0 = ltu (n : Int) := ⟨_, rfl⟩
  have HL : Hid (∀ wx, Calls Tryd.prog 56 #[.int .u8 n] wx fun e w' => e = .returned (.bool L0) ∧ w' = wx) := fun wx => by rw [hL0]; exact letter_r _ wx
  have hl : ltu (s[i].toNat : Int) = L0 := by rw [hL0, hn]
  clear hL0
  cases L0
  · obtain ⟨D0, hD0⟩ : ∃ D0, D0 = dgt (n : Int) := ⟨_, rfl⟩
    have HDG : Hid (∀ wx, Calls Tryd.prog 58 #[.int .u8 n] wx fun e w' => e = .returned (.bool D0) ∧ w' = wx) := fun wx => by rw [hD0]; exact digit_r _ wx
    have hdg : dgB s[i] = D0 := by unfold dgB; rw [hD0, hn]
    clear hD0
    cases D0
    · by_cases h34 : n = 34
      · have h34' : s[i] = 34 := u8_of (k := 34) hn (by decide) h34
        have hst := step_str i (s.data.toList.drop (i + 1))
        rw [← h34', ← hd] at hst
        have HSTR : Hid (∀ wx, Calls Tryd.prog 60 #[.string s, .int .i64 i] wx fun e w' => e = .returned (gotV i (strL i (i + 1) [] (s.data.toList.drop (i + 1)))) ∧ Below wx.heap.size wx w') := fun wx => str_r s i hi hsz wx
        have hq : ∀ t q, strL i (i + 1) [] (s.data.toList.drop (i + 1)) = .ok t q → i ≤ q := fun t q h => by
          have := strL_ok _ _ _ _ _ _ _ (Nat.le_refl _) h
          omega
        obtain ⟨X, hX⟩ : ∃ X, X = strL i (i + 1) [] (s.data.toList.drop (i + 1)) := ⟨_, rfl⟩
        rw [← hX] at hst hq HSTR
        have e34 : ((n : Int) == 34) = true := by simp; omega
        clear hX h34 h34' hn hl hd hnb hnn hR hlen hdg
        have main : ∀ u, (∀ wx, Calls Tryd.prog 60 #[.string s, .int .i64 i] wx fun e w' => e = .returned u ∧ Below wx.heap.size wx w') → u = gotO i (stepL (s.data.toList.drop i) i) → (∃ a b c d f g, u = .agg #[.int .i64 a, .string b, .int .i64 c, .int .i64 d, .int .i64 f, .int .i64 g]) → Calls Tryd.prog 40 #[.string s, .int .i64 i] w fun e w' => e = .returned (gotO i (stepL (s.data.toList.drop i) i)) ∧ Below w.heap.size w w' := by
          rintro _ hcall hu ⟨a, b, c, d, f, g, rfl⟩
          have HC := Lib.hid hcall
          have HU := Lib.hid hu
          clear hcall hu hst hq HSTR c0 c1 c2 c3 c4 c5 z0 z1 z2 z3 z4 z5
          go_enter Tryd.func40, Tryd.ntmps40
          go_upto_region 1 with fail
          rw [HWE.out]
          go_wp2_with (first | (go_at_call 56; refine (HL.out _).mono ?_; rintro e w' ⟨rfl, hw'⟩; obtain rfl := hw'.symm) | (go_at_call 58; refine (HDG.out _).mono ?_; rintro e w' ⟨rfl, hw'⟩; obtain rfl := hw'.symm) | (go_at_call 60; refine (HC.out _).mono ?_; rintro e w2 ⟨rfl, hb⟩; have hR2 := HER.out.below hb (by have := HEZ.out; omega); have c0 := hR2.c 0 _ rfl; have c1 := hR2.c 1 _ rfl; have c2 := hR2.c 2 _ rfl; have c3 := hR2.c 3 _ rfl; have c4 := hR2.c 4 _ rfl; have c5 := hR2.c 5 _ rfl; have z0 := hR2.z 0 (by omega); have z1 := hR2.z 1 (by omega); have z2 := hR2.z 2 (by omega); have z3 := hR2.z 3 (by omega); have z4 := hR2.z 4 (by omega); have z5 := hR2.z 5 (by omega); have hN2 : w.heap.size < w2.heap.size := by (have := hb.size; omega)))
          have HBW : Hid (Below w.heap.size w w2) := HEB.out.trans (hb.mono (by have := HEZ.out; omega))
          refine bodyPost_ret (v := .agg #[.int .i64 a, .string b, .int .i64 c, .int .i64 d, .int .i64 f, .int .i64 g]) (by simp [results, Tryd.results40, go_sem, c0, c1, c2, c3, c4, c5, z0, z1, z2, z3, z4, z5, hN2]) rfl ⟨by rw [HU.out], below6 HBW.out (Nat.le_refl _) _ _ _ _ _ _⟩
        refine main _ HSTR.out ?_ ?_
        · rw [hst]
          rcases X with ⟨E, q⟩ | ⟨t, q⟩
          · rfl
          · simp only [gotV, gotO]
            rw [show i + (q - i) = q by have := hq t q rfl; omega]
        · rcases X with ⟨E, q⟩ | ⟨t, q⟩
          · exact ⟨_, _, _, _, _, _, rfl⟩
          · exact ⟨_, _, _, _, _, _, rfl⟩
      · have h34' : s[i] ≠ 34 := u8_ne (k := 34) hn (by decide) h34
        have hst := step_signR (s.data.toList.drop (i + 1)) i hnb hnn h34' hdg hl
        rw [← hd] at hst
        have e34 : ((n : Int) == 34) = false := by simp; omega
        obtain ⟨l, hll⟩ : ∃ l, l = s.data.toList.drop i := ⟨_, rfl⟩
        have hpre : ∀ x : ByteArray, x.data.toList.isPrefixOf l = (decide (i + x.size ≤ s.size) && ((s.extract i (i + x.size)).toList == x.toList) || (x.size == 0)) := fun x => by rw [hll]; exact prefix_ext s i x
        rw [← hll] at hst ⊢
        have HLL := Lib.hid hll
        have HPRE := Lib.hid hpre
        have HST := Lib.hid hst
        obtain ⟨g, hg⟩ : ∃ g, g = wE.heap.size := ⟨_, rfl⟩
        obtain ⟨wS, hwS⟩ : ∃ wS, wS = wE.alloc (.cells sgV 9) := ⟨_, rfl⟩
        have HSG : Hid (∀ (j : Nat) (h : j < sgL.length), wS.cell? ⟨g, j, none⟩ = some (.string ⟨sgL[j].toArray⟩)) := fun j h => by rw [hwS, hg]; exact list_at sgV_eq wE 9 j h
        have HSR : Hid (Calls Tryd.prog 61 #[] wE fun e w' => e = .returned (.slice (some ⟨g, 0, none⟩) 19 19) ∧ w' = wS) := by rw [hwS, hg]; exact signs_r wE
        have HBS : Hid (Below wE.heap.size wE wS) := by rw [hwS]; exact (Below.refl _ _).alloc (Nat.le_refl _) _
        clear h34 h34' hn hl hd hnb hnn hR hlen hdg hst hpre hll hg hwS c0 c1 c2 c3 c4 c5 z0 z1 z2 z3 z4 z5
        have hR2 := HER.out.below HBS.out (by have := HEZ.out; omega)
        have c0 := hR2.c 0 _ rfl
        have c1 := hR2.c 1 _ rfl
        have c2 := hR2.c 2 _ rfl
        have c3 := hR2.c 3 _ rfl
        have c4 := hR2.c 4 _ rfl
        have c5 := hR2.c 5 _ rfl
        have z0 := hR2.z 0 (by omega)
        have z1 := hR2.z 1 (by omega)
        have z2 := hR2.z 2 (by omega)
        have z3 := hR2.z 3 (by omega)
        have z4 := hR2.z 4 (by omega)
        have z5 := hR2.z 5 (by omega)
        have hN2 : w.heap.size < wS.heap.size := by have := HBS.out.size; omega
        have HBW : Hid (Below w.heap.size w wS) := HEB.out.trans (HBS.out.mono (by have := HEZ.out; omega))
        clear hR2
        go_enter Tryd.func40, Tryd.ntmps40
        go_upto_region 1 with fail
        rw [HWE.out]
        go_wp2_with (first | (go_at_call 56; refine (HL.out _).mono ?_; rintro e w' ⟨rfl, hw'⟩; obtain rfl := hw'.symm) | (go_at_call 58; refine (HDG.out _).mono ?_; rintro e w' ⟨rfl, hw'⟩; obtain rfl := hw'.symm) | (go_at_call 61; refine HSR.out.mono ?_; rintro e w' ⟨rfl, hw'⟩; obtain rfl := hw'.symm))
        go_loopw [9] (fun iv wr => ∃ k d : Nat, iv = .int .i64 k ∧ k ≤ 19 ∧ firstSg (sgL.drop k) l = signL l ∧ wr = wS.drewN d) (fun iv _ => 19 - (intOf iv).toNat)
        case atStart => exact ⟨0, 0, rfl, by omega, by rw [List.drop_zero]; exact firstSg_sign l, rfl⟩
        case round =>
          obtain ⟨k, d, rfl, hk, hfs, rfl⟩ := hrel
          have HFS := Lib.hid hfs
          clear hfs
          by_cases hlt : k < 19
          · have hkL : k < sgL.length := (show k < 19 from hlt)
            have cx := HSG.out k hkL
            have v1 : (k : Int) < 19 := by omega
            obtain ⟨x, hx⟩ : ∃ x : ByteArray, x = ⟨sgL[k].toArray⟩ := ⟨_, rfl⟩
            rw [← hx] at cx
            have hxl : x.data.toList = sgL[k] := by rw [hx]
            have hxz : x.size = sgL[k].length := by rw [← hxl]; simp
            have h12 := sg_sizes sgL[k] (List.getElem_mem hkL)
            have hdr : sgL.drop k = x.data.toList :: sgL.drop (k + 1) := by rw [hxl]; exact List.drop_eq_getElem_cons hkL
            have hx0 : (x.size == 0) = false := beq_eq_false_iff_ne.2 (by omega)
            have hfs2 := HFS.out
            rw [hdr, firstSg, HPRE.out x, hx0, Bool.or_false] at hfs2
            have vx : (x.size : Int) ≤ 2 := by omega
            have vx0 : 0 < x.size := by omega
            have hxz2 : x.data.toList.length = x.size := by simp
            clear hx hxl hxz h12 hdr hx0
            by_cases hfit : i + x.size ≤ s.size
            · rw [decide_eq_true hfit, Bool.true_and] at hfs2
              obtain ⟨b, hb⟩ : ∃ b, ((s.extract i (i + x.size)).toList == x.toList) = b := ⟨_, rfl⟩
              rw [hb] at hfs2
              have b1 : (i : Int) + (x.size : Int) ≤ (s.size : Int) := by omega
              have b2 : decide ((i : Int) + (x.size : Int) ≤ (s.size : Int)) = true := by simp; omega
              cases b
              · have HNX : Hid (firstSg (sgL.drop (k + 1)) l = signL l) := hfs2
                clear hfs2 hxz2
                go_wp2
                go_quiet (fail)
                go_wp2
                go_roundw
                case rel => exact ⟨k + 1, _, by go_num, by omega, HNX.out, by first | rfl | trivial⟩
                case measure => simp [intOf]; omega
              · rw [if_pos rfl, hxz2] at hfs2
                have hst := HST.out
                rw [← hfs2, if_neg (by omega)] at hst
                have hpx := HPRE.out x
                rw [hb, decide_eq_true hfit] at hpx
                have htk : l.take x.size = x.data.toList := by
                  have h := List.isPrefixOf_iff_prefix.1 (hpx.trans (by simp))
                  rw [List.prefix_iff_eq_take, hxz2] at h
                  exact h.symm
                rw [htk] at hst
                have HGO : Hid (gotO i (stepL l i) = .agg #[.int .i64 4, .string x, .int .i64 i, .int .i64 ((i : Int) + (x.size : Int)), .int .i64 0, .int .i64 0]) := by
                  show _ = _
                  rw [hst, gotO, show (⟨x.data.toList.toArray⟩ : ByteArray) = x from bytes_ext' (by simp), Int.natCast_add]
                clear hfs2 hxz2 hst hpx htk
                go_wp2
                go_quiet (fail)
                go_wp2
                refine bodyPost_ret (v := .agg #[.int .i64 4, .string x, .int .i64 i, .int .i64 ((i : Int) + (x.size : Int)), .int .i64 0, .int .i64 0]) (by simp [results, Tryd.results40, go_sem, c0, c1, c2, c3, c4, c5, z0, z1, z2, z3, z4, z5, hN2]) rfl ⟨by rw [HGO.out], below6 (below_drewN HBW.out _) (Nat.le_refl _) _ _ _ _ _ _⟩
            · rw [decide_eq_false hfit, Bool.false_and] at hfs2
              have HNX : Hid (firstSg (sgL.drop (k + 1)) l = signL l) := hfs2
              have b1 : ¬ (i : Int) + (x.size : Int) ≤ (s.size : Int) := by omega
              have b2 : decide ((i : Int) + (x.size : Int) ≤ (s.size : Int)) = false := by simp; omega
              clear hfs2 hxz2
              go_wp2
              go_quiet (fail)
              go_wp2
              go_roundw
              case rel => exact ⟨k + 1, _, by go_num, by omega, HNX.out, by first | rfl | trivial⟩
              case measure => simp [intOf]; omega
          · have hk19 : k = 19 := by omega
            subst hk19
            have h0 : signL l = 0 := HFS.out.symm
            have HBD : Hid (stepL l i = .bad 50 i) := by
              show _ = _
              rw [HST.out, if_pos h0]
            clear h0
            go_wp2
            refine bodyPost_ret (v := gotO i (.bad 50 i)) (by simp [results, Tryd.results40, go_sem, gotO, c0, c1, c2, c3, c4, c5, z0, z1, z2, z3, z4, z5, hN2]) rfl ⟨by rw [HBD.out], below6 (below_drewN HBW.out _) (Nat.le_refl _) _ _ _ _ _ _⟩
    · have hr1 : rl false (s.data.toList.drop i) ≤ s.size - i := by
        rw [← hlen]
        unfold rl
        exact (List.takeWhile_prefix _).length_le
      have HRUN : Hid (∀ wx, Calls Tryd.prog 57 #[.string s, .int .i64 i, .bool false] wx fun e w' => e = .returned (.int .i64 ((i + rl false (s.data.toList.drop i) : Nat) : Int)) ∧ w' = wx) := fun wx => run_r s i false (by omega) hsz wx
      obtain ⟨r, hr⟩ : ∃ r, r = rl false (s.data.toList.drop i) := ⟨_, rfl⟩
      have hst := fun S hS L hL => step_numR (s.data.toList.drop (i + 1)) i hdg S hS L hL
      rw [← hd, ← hr] at hst
      rw [← hr] at hr1 HRUN
      obtain ⟨J, hJ⟩ : ∃ J, J = i + r := ⟨_, rfl⟩
      rw [← hJ] at HRUN
      have hJi : i ≤ J := by omega
      have hJs : J ≤ s.size := by omega
      have hX : s.extract i J = ⟨((s.data.toList.drop i).take r).toArray⟩ := by rw [← ext_take, show J - i = r by omega]
      have HX := Lib.hid hX
      have HJ := Lib.hid hJ
      have vJ : (J : Int) ≤ 140737488355328 := by omega
      have vi : (i : Int) ≤ (J : Int) := by omega
      obtain ⟨S, hS⟩ : ∃ S, S = smallB ((s.data.toList.drop i).take r) := ⟨_, rfl⟩
      have HSM : Hid (∀ wx, Calls Tryd.prog 59 #[.string (s.extract i J)] wx fun e w' => e = .returned (.bool S) ∧ w' = wx) := fun wx => by
        refine (small_r (s.extract i J) wx).mono ?_
        rintro e w' ⟨rfl, hw'⟩
        exact ⟨by rw [hS, hX], hw'⟩
      have hst2 := hst S hS.symm
      have hdr : (s.data.toList.drop i).drop r = s.data.toList.drop J := by rw [List.drop_drop, hJ]
      rw [hdr] at hst2
      clear hst hX hr hn hl hd hnb hnn hR hlen hdg hS hdr hJ hr1
      cases S
      · have HST : Hid (stepL (s.data.toList.drop i) i = .bad 51 i) := by
          show _ = _
          obtain ⟨Lv, hL⟩ : ∃ Lv, match (s.data.toList.drop J).head? with | none => Lv = false | some x => Lv = ltu (x.toNat : Int) := by
            cases (s.data.toList.drop J).head? with
            | none => exact ⟨_, rfl⟩
            | some x => exact ⟨_, rfl⟩
          rw [hst2 Lv hL, if_neg (fun h => by cases h.1)]
        clear hst2
        go_enter Tryd.func40, Tryd.ntmps40
        go_upto_region 1 with fail
        rw [HWE.out]
        go_wp2_with (first | (go_at_call 56; refine (HL.out _).mono ?_; rintro e w' ⟨rfl, hw'⟩; obtain rfl := hw'.symm) | (go_at_call 57; refine (HRUN _).mono ?_; rintro e w' ⟨rfl, hw'⟩; obtain rfl := hw'.symm) | (go_at_call 58; refine (HDG.out _).mono ?_; rintro e w' ⟨rfl, hw'⟩; obtain rfl := hw'.symm) | (go_at_call 59; refine (HSM.out _).mono ?_; rintro e w' ⟨rfl, hw'⟩; obtain rfl := hw'.symm))
        refine bodyPost_ret (v := gotO i (.bad 51 i)) (by simp [results, Tryd.results40, go_sem, gotO, c0, c1, c2, c3, c4, c5, z0, z1, z2, z3, z4, z5, hNlt]) rfl ⟨by rw [HST.out], below6 HEB.out (Nat.le_refl _) _ _ _ _ _ _⟩
      · by_cases hJlt : J < s.size
        · have hd2 := drop_at hJlt
          obtain ⟨m, hm⟩ : ∃ m : Nat, m = (s[J]'hJlt).toNat := ⟨_, rfl⟩
          have F1 : ((s[J]'hJlt).toNat : Int) = m := by rw [hm]
          obtain ⟨L1, hL1⟩ : ∃ L1, L1 = ltu (m : Int) := ⟨_, rfl⟩
          have HL2 : Hid (∀ wx, Calls Tryd.prog 56 #[.int .u8 m] wx fun e w' => e = .returned (.bool L1) ∧ w' = wx) := fun wx => by rw [hL1]; exact letter_r _ wx
          have hst3 := hst2 L1 (by rw [hd2, List.head?_cons]; simp only; rw [hL1, hm])
          have v3 : (J : Int) < (s.size : Int) := by omega
          clear hst2 hd2 hm hL1
          cases L1
          · have HST : Hid (stepL (s.data.toList.drop i) i = .tok 2 ((s.data.toList.drop i).take r) r) := by
              show _ = _
              rw [hst3, if_pos ⟨rfl, rfl⟩]
            clear hst3
            go_enter Tryd.func40, Tryd.ntmps40
            go_upto_region 1 with fail
            rw [HWE.out]
            go_wp2_with fail
            refine (HL.out _).mono ?_
            rintro e w' ⟨rfl, hw'⟩
            obtain rfl := hw'.symm
            go_wp2_with (first | (go_at_call 57; refine (HRUN _).mono ?_; rintro e w' ⟨rfl, hw'⟩; obtain rfl := hw'.symm) | (go_at_call 58; refine (HDG.out _).mono ?_; rintro e w' ⟨rfl, hw'⟩; obtain rfl := hw'.symm) | (go_at_call 59; refine (HSM.out _).mono ?_; rintro e w' ⟨rfl, hw'⟩; obtain rfl := hw'.symm))
            refine (HL2.out _).mono ?_
            rintro e w' ⟨rfl, hw'⟩
            obtain rfl := hw'.symm
            go_wp2_with fail
            refine bodyPost_ret (v := .agg #[.int .i64 2, .string (s.extract i J), .int .i64 i, .int .i64 J, .int .i64 0, .int .i64 0]) (by simp [results, Tryd.results40, go_sem, c0, c1, c2, c3, c4, c5, z0, z1, z2, z3, z4, z5, hNlt]) rfl ⟨by rw [HST.out, gotO, ← HX.out, ← HJ.out], below6 HEB.out (Nat.le_refl _) _ _ _ _ _ _⟩
          · have HST : Hid (stepL (s.data.toList.drop i) i = .bad 51 i) := by
              show _ = _
              rw [hst3, if_neg (fun h => by cases h.2)]
            clear hst3
            go_enter Tryd.func40, Tryd.ntmps40
            go_upto_region 1 with fail
            rw [HWE.out]
            go_wp2_with fail
            refine (HL.out _).mono ?_
            rintro e w' ⟨rfl, hw'⟩
            obtain rfl := hw'.symm
            go_wp2_with (first | (go_at_call 57; refine (HRUN _).mono ?_; rintro e w' ⟨rfl, hw'⟩; obtain rfl := hw'.symm) | (go_at_call 58; refine (HDG.out _).mono ?_; rintro e w' ⟨rfl, hw'⟩; obtain rfl := hw'.symm) | (go_at_call 59; refine (HSM.out _).mono ?_; rintro e w' ⟨rfl, hw'⟩; obtain rfl := hw'.symm))
            refine (HL2.out _).mono ?_
            rintro e w' ⟨rfl, hw'⟩
            obtain rfl := hw'.symm
            go_wp2_with fail
            refine bodyPost_ret (v := gotO i (.bad 51 i)) (by simp [results, Tryd.results40, go_sem, gotO, c0, c1, c2, c3, c4, c5, z0, z1, z2, z3, z4, z5, hNlt]) rfl ⟨by rw [HST.out], below6 HEB.out (Nat.le_refl _) _ _ _ _ _ _⟩
        · have HST : Hid (stepL (s.data.toList.drop i) i = .tok 2 ((s.data.toList.drop i).take r) r) := by
            show _ = _
            rw [hst2 false (by rw [List.drop_eq_nil_of_le (by simp; omega)]; rfl), if_pos ⟨rfl, rfl⟩]
          have v3 : ¬ (J : Int) < (s.size : Int) := by omega
          have d3 : decide (J < s.size) = false := by simp; omega
          clear hst2 hJlt
          go_enter Tryd.func40, Tryd.ntmps40
          go_upto_region 1 with fail
          rw [HWE.out]
          go_wp2_with (first | (go_at_call 56; refine (HL.out _).mono ?_; rintro e w' ⟨rfl, hw'⟩; obtain rfl := hw'.symm) | (go_at_call 57; refine (HRUN _).mono ?_; rintro e w' ⟨rfl, hw'⟩; obtain rfl := hw'.symm) | (go_at_call 58; refine (HDG.out _).mono ?_; rintro e w' ⟨rfl, hw'⟩; obtain rfl := hw'.symm) | (go_at_call 59; refine (HSM.out _).mono ?_; rintro e w' ⟨rfl, hw'⟩; obtain rfl := hw'.symm))
          refine bodyPost_ret (v := .agg #[.int .i64 2, .string (s.extract i J), .int .i64 i, .int .i64 J, .int .i64 0, .int .i64 0]) (by simp [results, Tryd.results40, go_sem, c0, c1, c2, c3, c4, c5, z0, z1, z2, z3, z4, z5, hNlt]) rfl ⟨by rw [HST.out, gotO, ← HX.out, ← HJ.out], below6 HEB.out (Nat.le_refl _) _ _ _ _ _ _⟩
  · have hst := step_wordR (s.data.toList.drop (i + 1)) i hl
    rw [← hd] at hst
    have hr1 : rl true (s.data.toList.drop i) ≤ s.size - i := by rw [rl_true, ← hlen]; exact wl_le _
    have HRUN : Hid (∀ wx, Calls Tryd.prog 57 #[.string s, .int .i64 i, .bool true] wx fun e w' => e = .returned (.int .i64 ((i + rl true (s.data.toList.drop i) : Nat) : Int)) ∧ w' = wx) := fun wx => run_r s i true (by omega) hsz wx
    obtain ⟨r, hr⟩ : ∃ r, r = rl true (s.data.toList.drop i) := ⟨_, rfl⟩
    rw [← hr] at hst hr1 HRUN
    obtain ⟨J, hJ⟩ : ∃ J, J = i + r := ⟨_, rfl⟩
    rw [← hJ] at HRUN
    have hJi : i ≤ J := by omega
    have hJs : J ≤ s.size := by omega
    have hX : s.extract i J = ⟨((s.data.toList.drop i).take r).toArray⟩ := by rw [← ext_take, show J - i = r by omega]
    have HX := Lib.hid hX
    have HJ := Lib.hid hJ
    have vJ : (J : Int) ≤ 140737488355328 := by omega
    have vi : (i : Int) ≤ (J : Int) := by omega
    clear hX hr hn hl hd hnb hnn hR hlen
    by_cases h32 : 32 < r
    · rw [if_pos h32] at hst
      have HST := Lib.hid hst
      have g0 : decide ((32 : Int) < (J : Int) - (i : Int)) = true := by simp; omega
      have g1 : (32 : Int) < (J : Int) - (i : Int) := by omega
      clear hst hJ h32 hr1
      go_enter Tryd.func40, Tryd.ntmps40
      go_upto_region 1 with fail
      rw [HWE.out]
      go_wp2_with (first | (go_at_call 56; refine (HL.out _).mono ?_; rintro e w' ⟨rfl, hw'⟩; obtain rfl := hw'.symm) | (go_at_call 57; refine (HRUN _).mono ?_; rintro e w' ⟨rfl, hw'⟩; obtain rfl := hw'.symm))
      refine bodyPost_ret (v := gotO i (.bad 51 i)) (by simp [results, Tryd.results40, go_sem, gotO, c0, c1, c2, c3, c4, c5, z0, z1, z2, z3, z4, z5, hNlt]) rfl ⟨by rw [HST.out], below6 HEB.out (Nat.le_refl _) _ _ _ _ _ _⟩
    · rw [if_neg h32] at hst
      have HST := Lib.hid hst
      have g0 : decide ((32 : Int) < (J : Int) - (i : Int)) = false := by simp; omega
      have g1 : ¬ (32 : Int) < (J : Int) - (i : Int) := by omega
      clear hst hJ h32 hr1
      go_enter Tryd.func40, Tryd.ntmps40
      go_upto_region 1 with fail
      rw [HWE.out]
      go_wp2_with (first | (go_at_call 56; refine (HL.out _).mono ?_; rintro e w' ⟨rfl, hw'⟩; obtain rfl := hw'.symm) | (go_at_call 57; refine (HRUN _).mono ?_; rintro e w' ⟨rfl, hw'⟩; obtain rfl := hw'.symm))
      refine bodyPost_ret (v := .agg #[.int .i64 1, .string (s.extract i J), .int .i64 i, .int .i64 J, .int .i64 0, .int .i64 0]) (by simp [results, Tryd.results40, go_sem, c0, c1, c2, c3, c4, c5, z0, z1, z2, z3, z4, z5, hNlt]) rfl ⟨by rw [HST.out, gotO, ← HX.out, ← HJ.out], below6 HEB.out (Nat.le_refl _) _ _ _ _ _ _⟩
end Go.Proofs.YtdafnkfnaknoiaaDoor
namespace Go.Proofs.YtdafnkfnaknoiaaDoor
open Go Go.RowKit
set_option maxHeartbeats 4000000
set_option linter.unusedVariables false
set_option linter.unusedSimpArgs false
theorem R6.at6 {w w' : World} {N B : Nat} (h : R6 w N) (hb : Below B w w') (hN : N < B) : R6 w' N := h.below hb hN
theorem step_rest {l : List UInt8} (p : Nat) (h : Rest l) (hne : l ≠ []) : (∃ k s n, stepL l p = .tok k s n ∧ k ≠ 5) ∨ ∃ E q, stepL l p = .bad E q := by
  rcases hs : stepL l p with _ | n | ⟨k, s, n⟩ | ⟨E, q⟩
  · exfalso
    rcases stt_cases l p with ⟨h1, _, hs'⟩ | ⟨_, _, _, _, hs'⟩ | ⟨_, _, _, hs'⟩ | ⟨t, _, _, hs'⟩ | ⟨_, _, _, _, _, hs'⟩ | ⟨_, _, _, hs'⟩ | ⟨_, _, hs'⟩ | ⟨_, _, _, hs'⟩
    · exact hne h1
    all_goals rw [hs] at hs'
    all_goals first | (cases hs'; done) | (split at hs' <;> cases hs')
  · exfalso
    rcases h with rfl | ⟨c, t, rfl, hb, hn⟩
    · exact hne rfl
    · unfold stepL at hs
      simp only at hs
      rw [if_neg (by rw [hb]; decide), if_neg hn] at hs
      repeat' (split at hs)
      all_goals cases hs
  · refine .inl ⟨k, s, n, rfl, ?_⟩
    rintro rfl
    rcases stt_cases l p with ⟨h1, _, hs'⟩ | ⟨_, _, _, _, hs'⟩ | ⟨_, _, _, hs'⟩ | ⟨t, _, _, hs'⟩ | ⟨_, _, _, _, _, hs'⟩ | ⟨_, _, _, hs'⟩ | ⟨_, _, hs'⟩ | ⟨_, _, _, hs'⟩
    all_goals rw [hs] at hs'
    all_goals first | (cases hs'; done) | (split at hs' <;> cases hs')
  · exact .inr ⟨E, q, rfl⟩
set_option maxRecDepth 100000 in
theorem refScan_any (T : ByteArray) (hsz : T.size ≤ 140737488355328) (w : World) : Calls Tryd.prog 25 #[.string T] w (ScanPost (scanL T.data.toList) w) := by
  have hTl : T.data.toList.length = T.size := by simp
  by_cases hT : T.size ≤ 4096
  · have HX : Hid (scanL T.data.toList = scanT 0 [] T.data.toList) := by show _ = _; unfold scanL; rw [if_neg (by omega)]
    have b0 : decide ((4096 : Int) < (T.size : Int)) = false := by simp; omega
    have hb1 : (T.size : Int) ≤ 4096 := by omega
    have HSK : Hid (∀ (i : Nat) (wx : World), i ≤ T.size → Calls Tryd.prog 39 #[.string T, .int .i64 i] wx fun e w' => (∃ j : Nat, e = .returned (.int .i64 j) ∧ i ≤ j ∧ j ≤ T.size ∧ (∀ R, scanT i R (T.data.toList.drop i) = scanT j R (T.data.toList.drop j)) ∧ Rest (T.data.toList.drop j)) ∧ w' = wx) := fun i wx hi => skip_r T i hi hsz wx
    have HON : Hid (∀ (i : Nat) (wx : World), i < T.size → Rest (T.data.toList.drop i) → Calls Tryd.prog 40 #[.string T, .int .i64 i] wx fun e w' => e = .returned (gotO i (stepL (T.data.toList.drop i) i)) ∧ Below wx.heap.size wx w') := fun i wx hi hR => one_r T i hi hsz hR wx
    obtain ⟨i0, hi0, hz0, hz1, hz2⟩ := info_parts infoTok
    obtain ⟨X, hX⟩ : ∃ X, X = scanT 0 [] T.data.toList := ⟨_, rfl⟩
    rw [← hX] at HX
    rw [HX.out]
    have HS0 : Hid (∀ wx : World, Calls Tryd.prog 39 #[.string T, .int .i64 0] wx fun e w' => (∃ j : Nat, e = .returned (.int .i64 j) ∧ j ≤ T.size ∧ X = scanT j [] (T.data.toList.drop j) ∧ Rest (T.data.toList.drop j)) ∧ w' = wx) := fun wx => by
      refine (HSK.out 0 wx (Nat.zero_le _)).mono ?_
      rintro e w' ⟨⟨j, rfl, h1, h2, h3, h4⟩, hw⟩
      refine ⟨⟨j, rfl, h2, ?_, h4⟩, hw⟩
      rw [hX, ← h3, List.drop_zero]
    clear hX HX
    go_enter Tryd.func25, Tryd.ntmps25
    go_wp2_with fail
    refine (HS0.out _).mono ?_
    rintro e w1 ⟨⟨j0, rfl, hj1, hj2, hj3⟩, hw1⟩
    obtain rfl := hw1.symm
    have HJ2 := Lib.hid hj2
    have HJ3 := Lib.hid hj3
    clear hj2 hj3 HS0
    go_wp2
    go_loopw [5, 6] (fun lv iv wr => ∃ (j : Nat) (L : List Tk), iv = .int .i64 j ∧ j ≤ T.size ∧ L.length ≤ j ∧ X = scanT j L (T.data.toList.drop j) ∧ Rest (T.data.toList.drop j) ∧ wr.ownsRow w.heap.size 28 3 lv L.length (tkCells L) ∧ Below w.heap.size w wr) (fun _ iv _ => T.size - (intOf iv).toNat)
    case atStart => exact ⟨j0, [], rfl, hj1, Nat.zero_le _, HJ2.out, HJ3.out, World.ownsRow_nil _ _ _ _, Below.refl _ _⟩
    case round =>
      clear HJ2 HJ3 hj1
      obtain ⟨j, L, rfl, hj, hL, hX, hRest, hown, hb⟩ := hrel
      have HOWN := Lib.hid hown
      have HB := Lib.hid hb
      have HX := Lib.hid hX
      have HR := Lib.hid hRest
      clear hown hb hX hRest
      by_cases hlt : j < T.size
      · have v1 : (j : Int) < (T.size : Int) := by omega
        have hne : T.data.toList.drop j ≠ [] := by rw [drop_at hlt]; simp
        have hx := HX.out
        rw [scanT_eq] at hx
        rcases step_rest j HR.out hne with ⟨k, s, n, hs, hk5⟩ | ⟨E, q, hs⟩
        · have hn := stepL_tok hs
          have hll : (T.data.toList.drop j).length = T.size - j := by simp
          rw [hs] at hx
          simp only [List.drop_drop] at hx
          have hcall := fun wx => HON.out j wx hlt HR.out
          rw [hs] at hcall
          simp only [gotO] at hcall
          obtain ⟨J, hJ⟩ : ∃ J, J = j + n := ⟨_, rfl⟩
          obtain ⟨S, hS⟩ : ∃ S : ByteArray, S = ⟨s.toArray⟩ := ⟨_, rfl⟩
          have hSl : S.data.toList = s := by rw [hS]
          rw [← hJ] at hx hcall
          rw [← hS] at hcall
          have HC := Lib.hid hcall
          have HX2 := Lib.hid hx
          have HJs : Hid (J ≤ T.size) := by show _ ≤ _; omega
          have HJj : Hid (j < J) := by show _ < _; omega
          have HLL : Hid (L.length + 1 ≤ J) := by show _ ≤ _; omega
          have hx3 : ∀ j2, (∀ R, scanT J R (T.data.toList.drop J) = scanT j2 R (T.data.toList.drop j2)) → X = scanT j2 (L ++ [(k, S.data.toList, j)]) (T.data.toList.drop j2) := fun j2 h => by rw [hx, hSl, h]
          have HX3 := Lib.hid hx3
          have HSK2 : Hid (∀ wx : World, Calls Tryd.prog 39 #[.string T, .int .i64 J] wx fun e w' => (∃ j2 : Nat, e = .returned (.int .i64 j2) ∧ J ≤ j2 ∧ j2 ≤ T.size ∧ X = scanT j2 (L ++ [(k, S.data.toList, j)]) (T.data.toList.drop j2) ∧ Rest (T.data.toList.drop j2)) ∧ w' = wx) := fun wx => by
            refine (HSK.out J wx HJs.out).mono ?_
            rintro e w' ⟨⟨j2, rfl, h1, h2, h3, h4⟩, hw⟩
            exact ⟨⟨j2, rfl, h1, h2, HX3.out j2 h3, h4⟩, hw⟩
          have hm1 : L.length + 1 ≤ maxLen := by unfold maxLen; omega
          have hm2 : (L.length + 1) * 32 ≤ 140737488355328 := by omega
          have hob : ∀ q, u5.ownBlock = some q → q < wr.heap.size := fun q hq => (HOWN.out.lt q hq).2
          have HOB := Lib.hid hob
          have HWS : Hid (w.heap.size ≤ wr.heap.size) := HB.out.size
          clear hx hx3 hs hn hll hcall hJ hS hSl hne hL hob
          go_wp2_with (first | (go_at_call 40; refine (HC.out _).mono ?_; rintro e w2 ⟨rfl, hb2⟩; have hO2 := fun o1 o2 => own3_keep HOWN.out ((hb2.alloc hb2.size o1).alloc (by have := hb2.size; simp; omega) o2)) | (at_builtin; refine wpList_append_lies _ rfl _ _ 23 rfl w.heap.size 28 i0 (.agg #[.int .i64 0, .string ⟨#[]⟩, .int .i64 0]) 3 32 Tryd.underlying23 hi0 hz0 hz1 hz2 rfl (by decide) _ _ _ rfl (hO2 _ _) ⟨w2.heap.size + 1, 0, none⟩ 1 1 [.int .i64 k, .string S, .int .i64 j] rfl rfl (fun j u h => lit_at _ _ (by simp) _ _ j u h) (ones3 _ _ _) (by decide) hm1 hm2 (by have := HWS.out; have := hb2.size; simp; omega) (w2.heap.size + 2) (by simp) ?_))
          intro g cap w5 hown5 hgr5 hwh5 hlt5
          have hw2 := hb2.size
          have hB5 : Below w.heap.size w w5 := (((HB.out.trans (hb2.mono HWS.out)).alloc (by have := HWS.out; omega) _).alloc (by have := HWS.out; simp; omega) _).grown hgr5 (by have := HWS.out; simp; omega) (fun q hq => (HOWN.out.lt q hq).1)
          have f3 : w5.cell? ⟨w2.heap.size, 3, none⟩ = some (.int .i64 J) := by
            refine (World.cell?_of_block (a := ⟨w2.heap.size, 3, none⟩) (hgr5.block w2.heap.size (by simp; omega) (fun e => by have := HOB.out _ e.symm; omega))).trans ?_
            simp [go_sem]
          have HB5 := Lib.hid hB5
          have hown6 : w5.ownsRow w.heap.size 28 3 (.slice (some ⟨g, 0, none⟩) (L.length + 1) cap) (L ++ [(k, S.data.toList, j)]).length (tkCells (L ++ [(k, S.data.toList, j)])) := by
            rw [tkCells_snoc, List.length_append]
            have e : tkV (k, S.data.toList, j) = [.int .i64 k, .string S, .int .i64 j] := by
              unfold tkV
              rw [show (⟨S.data.toList.toArray⟩ : ByteArray) = S from bytes_ext' (by simp)]
            rw [e]
            exact hown5
          have HO6 := Lib.hid hown6
          clear hB5 hown5 hown6 hgr5 hwh5
          go_wp2_with (go_at_call 39; refine (HSK2.out _).mono ?_; rintro e w6 ⟨⟨j2, rfl, k1, k2, k3, k4⟩, hw6⟩; obtain rfl := hw6.symm; have K3 := Lib.hid k3; have K4 := Lib.hid k4; clear k3 k4)
          go_roundw
          case rel => exact ⟨j2, _, rfl, k2, by rw [List.length_append, List.length_singleton]; have := HLL.out; omega, K3.out, K4.out, HO6.out, HB5.out⟩
          case measure => simp [intOf]; have := HJj.out; omega
        · have hE := stepL_bad hs
          rw [hs] at hx
          have hcall := fun wx => HON.out j wx hlt HR.out
          rw [hs] at hcall
          simp only [gotO] at hcall
          have HC := Lib.hid hcall
          have hx2 : X = .bad E q := hx
          have HX2 := Lib.hid hx2
          have dE : (E != 0) = true := by simpa using hE
          have HE := Lib.hid hE
          have HWS : Hid (w.heap.size ≤ wr.heap.size) := HB.out.size
          clear hx hx2 hs hcall hne hL hE
          go_wp2_with (first | (go_at_call 40; refine (HC.out _).mono ?_; rintro e w2 ⟨rfl, hb2⟩))
          have hB2 : Below w.heap.size w (w2.alloc (.cells #[.int .i64 0, .string ⟨#[]⟩, .int .i64 0, .int .i64 0, .int .i64 q, .int .i64 E] 76)) := (HB.out.trans (hb2.mono HWS.out)).alloc (by have := HWS.out; have := hb2.size; omega) _
          go_quiet (fail)
          go_wp2
          go_ret3
          rw [HX2.out]
          exact ⟨below_drewN hB2 _, HE.out, rfl⟩
      · have hjT : j = T.size := by omega
        have hx := HX.out
        rw [List.drop_eq_nil_of_le (by simp; omega), scan_nil] at hx
        have HX2 := Lib.hid hx
        have v1 : ¬ (j : Int) < (T.size : Int) := by omega
        have d1 : decide (j < T.size) = false := by simp; omega
        have HJT := Lib.hid hjT
        have hm1 : L.length + 1 ≤ maxLen := by unfold maxLen; omega
        have hm2 : (L.length + 1) * 32 ≤ 140737488355328 := by omega
        have hO2 := fun o => own3_keep HOWN.out ((Below.refl wr.heap.size wr).alloc (Nat.le_refl _) o)
        have HWS : Hid (w.heap.size ≤ wr.heap.size) := HB.out.size
        clear hx hjT hlt
        go_wp2_with (first | (at_builtin; refine wpList_append_lies _ rfl _ _ 23 rfl w.heap.size 28 i0 (.agg #[.int .i64 0, .string ⟨#[]⟩, .int .i64 0]) 3 32 Tryd.underlying23 hi0 hz0 hz1 hz2 rfl (by decide) _ _ _ rfl (hO2 _) ⟨wr.heap.size, 0, none⟩ 1 1 [.int .i64 5, .string ⟨#[]⟩, .int .i64 T.size] rfl rfl (fun j u h => lit_at _ _ (by simp) _ _ j u h) (ones3 _ _ _) (by decide) hm1 hm2 (by have := HWS.out; simp; omega) (wr.heap.size + 1) (by simp) ?_))
        intro g cap w5 hown5 hgr5 hwh5 hlt5
        have hB5 : Below w.heap.size w w5 := (HB.out.alloc HWS.out _).grown hgr5 (by have := HWS.out; simp; omega) (fun q hq => (HOWN.out.lt q hq).1)
        have hown6 : w5.ownsRow w.heap.size 28 3 (.slice (some ⟨g, 0, none⟩) (L.length + 1) cap) (L ++ [(5, [], j)]).length (tkCells (L ++ [(5, [], j)])) := by
          rw [tkCells_snoc, List.length_append]
          rw [show j = T.size from HJT.out]
          exact hown5
        have HB5 := Lib.hid hB5
        have HO6 := Lib.hid hown6
        clear hB5 hown5 hown6 hgr5 hwh5
        go_wp2
        go_ret3
        rw [HX2.out]
        exact ⟨HB5.out, _, rfl, HO6.out⟩
  · have HX : Hid (scanL T.data.toList = .bad 2 0) := by show _ = _; unfold scanL; rw [if_pos (by omega)]
    have b0 : decide ((4096 : Int) < (T.size : Int)) = true := by simp; omega
    have b1 : (4096 : Int) < (T.size : Int) := by omega
    clear hT hTl
    go_enter Tryd.func25, Tryd.ntmps25
    go_wp2
    go_ret3
    rw [HX.out]
    exact ⟨Below.refl _ _, by decide, rfl⟩
end Go.Proofs.YtdafnkfnaknoiaaDoor
namespace Go.Proofs.YtdafnkfnaknoiaaDoor
open Go Go.RowKit
set_option maxHeartbeats 8000000
set_option linter.unusedVariables false
set_option linter.unusedSimpArgs false
set_option maxRecDepth 100000 in
theorem escB_q0 : ∀ b : Fin 256, escB (UInt8.ofNat b.val) = if b.val = 34 ∨ b.val = 92 then [92, UInt8.ofNat b.val] else if b.val = 10 then [92, 110] else if b.val = 9 then [92, 116] else if b.val < 32 ∨ 126 < b.val then [92, 120, dL (b.val / 16), dL (b.val % 16)] else [UInt8.ofNat b.val] := by decide +kernel
theorem escB_q (b : UInt8) (n : Nat) (hn : n = b.toNat) : escB b = if n = 34 ∨ n = 92 then [92, b] else if n = 10 then [92, 110] else if n = 9 then [92, 116] else if n < 32 ∨ 126 < n then [92, 120, dL (n / 16), dL (n % 16)] else [b] := by
  have h := escB_q0 ⟨b.toNat, b.toNat_lt⟩
  subst hn
  simp only [UInt8.ofNat_toNat] at h
  exact h
theorem escB_len4 (b : UInt8) : (escB b).length ≤ 4 := by
  rw [escB_q b _ rfl]
  repeat' split
  all_goals simp
theorem escLB_len4 (l : List UInt8) : (escLB l).length ≤ 4 * l.length := by
  induction l with
  | nil => simp [escLB]
  | cons b m ih =>
    have := escB_len4 b
    simp only [escLB, List.flatMap_cons, List.length_append, List.length_cons] at ih ⊢
    omega
structure QRel (B : Nat) (W0 : World) (s : ByteArray) (v : Value) (i : Nat) (wr : World) : Prop where
  le : i ≤ s.size
  own : wr.ownsRow B 5 1 v (1 + (escLB (s.data.toList.take i)).length) (Lib.byteCells (34 :: escLB (s.data.toList.take i)))
  below : Below B W0 wr
theorem QRel.next {B : Nat} {W0 : World} {s : ByteArray} {v v2 : Value} {i : Nat} {wr w2 : World} (h : QRel B W0 s v i wr) (hlt : i < s.size) (e : List UInt8) (he : e = escB s[i]) (fl : Nat) (hfl : fl = (escLB (s.data.toList.take i)).length) (m : Nat) (hm : m = e.length) {xs : List Value} (hx : xs = Lib.byteCells e)
    (hown : w2.ownsRow B 5 1 v2 (1 + fl + m) (Lib.byteCells (34 :: escLB (s.data.toList.take i)) ++ xs)) (hb : Below B W0 w2) : QRel B W0 s v2 (i + 1) w2 := by
  subst he hm hx hfl
  have e0 : escLB (s.data.toList.take (i + 1)) = escLB (s.data.toList.take i) ++ escB s[i] := by
    rw [take_snoc s i hlt]
    simp [escLB, List.flatMap_append]
  refine ⟨by omega, ?_, hb⟩
  rw [e0, List.length_append, ← Nat.add_assoc]
  have e2 : Lib.byteCells (34 :: (escLB (s.data.toList.take i) ++ escB s[i])) = Lib.byteCells (34 :: escLB (s.data.toList.take i)) ++ Lib.byteCells (escB s[i]) := by simp [Lib.byteCells]
  rw [e2]
  exact hown
set_option maxRecDepth 100000 in
theorem quoted_r (s : ByteArray) (hs : s.size ≤ 256) (w : World) : Calls Tryd.prog 42 #[.string s] w fun e w' => e = .returned (.string ⟨(quoteL s.data.toList).toArray⟩) ∧ Below w.heap.size w w' := by
  obtain ⟨i0, hi, hz0, hz1, hz2⟩ := info_parts infoByte
  have hv : (s.size : Int) ≤ 256 := by omega
  have hm1 : 0 + 1 ≤ maxLen := by unfold maxLen; omega
  go_enter Tryd.func42, Tryd.ntmps42
  go_wp2_with (at_builtin; refine wpList_append_own _ rfl _ _ 22 rfl w.heap.size 5 i0 (.int .u8 0) 1 1 Tryd.underlying22 hi hz0 hz1 hz2 rfl (by decide) _ _ _ rfl (World.ownsRow_nil _ _ _ _) ⟨w.heap.size, 0, none⟩ 1 1 (u8s [34]) rfl rfl (lit_cells _ _ _) (u8s_one _) hm1 (by omega) (by simp) ?_; intro v1 w1 hown1 hgrow1 _; refine Hid.out ?_)
  refine Lib.hid ?_
  have hnx1 : Below w.heap.size w w1 := ((Below.refl _ _).alloc (Nat.le_refl _) _).grown hgrow1 (by simp) (fun k hk => by cases hk)
  simp only [Nat.zero_add, List.nil_append] at hown1
  clear hgrow1 hm1
  go_wp2
  go_loopw [3, 4] (fun v iv wr => ∃ i : Nat, iv = .int .i64 i ∧ QRel w.heap.size w s v i wr) (fun _ iv _ => s.size - (intOf iv).toNat)
  case atStart => exact ⟨0, rfl, Nat.zero_le _, by simpa [Lib.byteCells, u8s, escLB] using hown1, hnx1⟩
  case round =>
    obtain ⟨i, rfl, hrel⟩ := hrel
    have HR0 := Lib.hid hrel
    have hle := hrel.le
    have HBW := Lib.hid hrel.below
    have hfl4 : (escLB (s.data.toList.take i)).length ≤ 4 * i := by
      have := escLB_len4 (s.data.toList.take i)
      rw [List.length_take] at this
      omega
    obtain ⟨fl, hfl⟩ : ∃ fl, fl = (escLB (s.data.toList.take i)).length := ⟨_, rfl⟩
    have HOWN := Lib.hid hrel.own
    rw [← hfl] at HOWN hfl4
    have HFLN := Lib.hid hfl
    have HM1 : Hid (∀ m, m ≤ 4 → 1 + fl + m ≤ maxLen) := fun m hm => by unfold maxLen; omega
    have HM2 : Hid (∀ m, m ≤ 4 → (1 + fl + m) * 1 ≤ 140737488355328) := fun m hm => by omega
    have HSZ : Hid (∀ o : Obj, w.heap.size ≤ (wr.alloc o).heap.size) := fun o => Nat.le_trans HBW.out.size (by simp)
    clear hrel hfl hfl4
    by_cases hlt : i < s.size
    · obtain ⟨n, hn⟩ : ∃ n : Nat, n = s[i].toNat := ⟨_, rfl⟩
      have E0 : (s[i].toNat : Int) = n := by rw [hn]
      have hc : n < 256 := by rw [hn]; exact s[i].toNat_lt
      have hq := escB_q s[i] n hn
      have v1 : (i : Int) < (s.size : Int) := by omega
      have HC : Hid (u8s [92, (n : Int)] = Lib.byteCells [92, s[i]]) := by show _ = _; simp [u8s, Lib.byteCells, hn]
      have HC1 : Hid (u8s [(n : Int)] = Lib.byteCells [s[i]]) := by show _ = _; simp [u8s, Lib.byteCells, hn]
      clear hn
      by_cases k4 : n = 34 ∨ n = 92
      · rw [if_pos k4] at hq
        have HEN : Hid ([92, s[i]] = escB s[i]) := hq.symm
        clear hq
        have hd : (n : Int) = 34 ∨ (n : Int) = 92 := by omega
        clear k4
        rcases hd with hd | hd
        all_goals
          have HC2 := HC.out
          rw [hd] at HC2
          have HC3 := Lib.hid HC2
          clear HC HC1 HC2
          go_wp2_with (at_builtin; refine wpList_append_own _ rfl _ _ 22 rfl _ 5 i0 (.int .u8 0) 1 1 Tryd.underlying22 hi hz0 hz1 hz2 rfl (by decide) _ _ _ rfl (World.ownsRow.alloc HOWN.out _) ⟨wr.heap.size, 0, none⟩ 2 2 (u8s [92, _]) rfl rfl (lit_cells _ _ _) (u8s_one _) (HM1.out 2 (by omega)) (HM2.out 2 (by omega)) (HSZ.out _) ?_; intro v2 w2 hown2 hgrow2 _; refine Hid.out ?_)
          refine Lib.hid ?_
          have hb2 := (HBW.out.alloc HBW.out.size _).grown hgrow2 (HSZ.out _) (fun k hk => (World.ownsRow.lt HOWN.out k hk).1)
          have HR := Lib.hid (HR0.out.next hlt [92, s[i]] HEN.out fl HFLN.out 2 rfl HC3.out hown2 hb2)
          clear hown2 hgrow2 hb2
          go_wp2
          go_roundw
          case rel => exact ⟨i + 1, by go_num, HR.out⟩
          case measure => simp [intOf]; omega
      · have b34 : ((n : Int) == 34) = false := by simp; omega
        have b92 : ((n : Int) == 92) = false := by simp; omega
        rw [if_neg k4] at hq
        clear k4
        by_cases k2 : n = 10
        · have HEN : Hid ([92, 110] = escB s[i]) := by rw [if_pos k2] at hq; exact hq.symm
          have c10 : (n : Int) = 10 := by omega
          clear k2 hq HC HC1
          go_wp2_with (at_builtin; refine wpList_append_own _ rfl _ _ 22 rfl _ 5 i0 (.int .u8 0) 1 1 Tryd.underlying22 hi hz0 hz1 hz2 rfl (by decide) _ _ _ rfl (World.ownsRow.alloc HOWN.out _) ⟨wr.heap.size, 0, none⟩ 2 2 (u8s [92, 110]) rfl rfl (lit_cells _ _ _) (u8s_one _) (HM1.out 2 (by omega)) (HM2.out 2 (by omega)) (HSZ.out _) ?_; intro v2 w2 hown2 hgrow2 _; refine Hid.out ?_)
          refine Lib.hid ?_
          have hb2 := (HBW.out.alloc HBW.out.size _).grown hgrow2 (HSZ.out _) (fun k hk => (World.ownsRow.lt HOWN.out k hk).1)
          have HR := Lib.hid (HR0.out.next hlt [92, 110] HEN.out fl HFLN.out 2 rfl (xs := u8s [92, 110]) (by rfl) hown2 hb2)
          clear hown2 hgrow2 hb2
          go_wp2
          go_roundw
          case rel => exact ⟨i + 1, by go_num, HR.out⟩
          case measure => simp [intOf]; omega
        · have b10 : ((n : Int) == 10) = false := by simp; omega
          rw [if_neg k2] at hq
          clear k2
          by_cases k3 : n = 9
          · have HEN : Hid ([92, 116] = escB s[i]) := by rw [if_pos k3] at hq; exact hq.symm
            have c9 : (n : Int) = 9 := by omega
            clear k3 hq HC HC1
            go_wp2_with (at_builtin; refine wpList_append_own _ rfl _ _ 22 rfl _ 5 i0 (.int .u8 0) 1 1 Tryd.underlying22 hi hz0 hz1 hz2 rfl (by decide) _ _ _ rfl (World.ownsRow.alloc HOWN.out _) ⟨wr.heap.size, 0, none⟩ 2 2 (u8s [92, 116]) rfl rfl (lit_cells _ _ _) (u8s_one _) (HM1.out 2 (by omega)) (HM2.out 2 (by omega)) (HSZ.out _) ?_; intro v2 w2 hown2 hgrow2 _; refine Hid.out ?_)
            refine Lib.hid ?_
            have hb2 := (HBW.out.alloc HBW.out.size _).grown hgrow2 (HSZ.out _) (fun k hk => (World.ownsRow.lt HOWN.out k hk).1)
            have HR := Lib.hid (HR0.out.next hlt [92, 116] HEN.out fl HFLN.out 2 rfl (xs := u8s [92, 116]) (by rfl) hown2 hb2)
            clear hown2 hgrow2 hb2
            go_wp2
            go_roundw
            case rel => exact ⟨i + 1, by go_num, HR.out⟩
            case measure => simp [intOf]; omega
          · have b9 : ((n : Int) == 9) = false := by simp; omega
            rw [if_neg k3] at hq
            clear k3
            by_cases k5 : n < 32 ∨ 126 < n
            · have HEN : Hid ([92, 120, dL (n / 16), dL (n % 16)] = escB s[i]) := by rw [if_pos k5] at hq; exact hq.symm
              have q0 : (0 : Int) ≤ (n : Int) / 16 := by omega
              have q1 : (n : Int) / 16 < 16 := by omega
              have r0 : (0 : Int) ≤ (n : Int) % 16 := by omega
              have r1 : (n : Int) % 16 < 16 := by omega
              have wq : IntKind.u8.wrap ((n : Int) / 16) = (n : Int) / 16 := wrap_u8 q0 (by omega)
              have tm : Int.tmod (n : Int) 16 = (n : Int) % 16 := Int.tmod_eq_emod_of_nonneg (by omega)
              have hd0 : ((n : Int) / 16).toNat < dS.size := by show _ < 16; omega
              have hu0 : ((n : Int) % 16).toNat < dS.size := by show _ < 16; omega
              have eD := dS_at ((n : Int) / 16) (n / 16) (by omega) (by omega) hd0
              have eU := dS_at ((n : Int) % 16) (n % 16) (by omega) (by omega) hu0
              clear hq HC HC1
              rcases k5 with l1 | l1
              all_goals
                go_wp2
                go_region_law (first | (refine step_append_lies _ rfl _ _ 22 rfl _ 5 i0 (.int .u8 0) 1 1 Tryd.underlying22 hi hz0 hz1 hz2 rfl (by decide) u3 _ _ rfl ((HOWN.out.alloc _).drew) ⟨wr.heap.size, 0, none⟩ 4 4 (u8s [92, 120, (dL (n / 16)).toNat, (dL (n % 16)).toNat]) rfl rfl (fun j u h => lit_cells wr _ _ j u h) (u8s_one _) (by decide) (HM1.out 4 (by omega)) (HM2.out 4 (by omega)) (HSZ.out _) (wr.heap.size + 1) (by simp) ?_; intro g cap2 w2 hown2 hgrow2 _ _))
                all_goals
                  have hb2 := ((HBW.out.alloc HBW.out.size _).drew).grown hgrow2 (HSZ.out _) (fun k hk => (World.ownsRow.lt HOWN.out k hk).1)
                  have HR := Lib.hid (HR0.out.next hlt [92, 120, dL (n / 16), dL (n % 16)] HEN.out fl HFLN.out 4 rfl (xs := u8s [92, 120, (dL (n / 16)).toNat, (dL (n % 16)).toNat]) (by simp [u8s, Lib.byteCells]) hown2 hb2)
                  clear hown2 hgrow2 hb2
                  go_wp2
                  go_roundw
                  case rel => exact ⟨i + 1, by go_num, HR.out⟩
                  case measure => simp [intOf]; omega
            · have HEN : Hid ([s[i]] = escB s[i]) := by rw [if_neg k5] at hq; exact hq.symm
              have l1 : ¬ n < 32 := by omega
              have l2 : ¬ 126 < n := by omega
              have l3 : ¬ (n : Int) < 32 := by omega
              have l4 : ¬ (126 : Int) < (n : Int) := by omega
              clear hq HC k5
              go_wp2_with (at_builtin; refine wpList_append_own _ rfl _ _ 22 rfl _ 5 i0 (.int .u8 0) 1 1 Tryd.underlying22 hi hz0 hz1 hz2 rfl (by decide) _ _ _ rfl (World.ownsRow.alloc HOWN.out _) ⟨wr.heap.size, 0, none⟩ 1 1 (u8s [(n : Int)]) rfl rfl (lit_cells _ _ _) (u8s_one _) (HM1.out 1 (by omega)) (HM2.out 1 (by omega)) (HSZ.out _) ?_; intro v2 w2 hown2 hgrow2 _; refine Hid.out ?_)
              refine Lib.hid ?_
              have hb2 := (HBW.out.alloc HBW.out.size _).grown hgrow2 (HSZ.out _) (fun k hk => (World.ownsRow.lt HOWN.out k hk).1)
              have HR := Lib.hid (HR0.out.next hlt [s[i]] HEN.out fl HFLN.out 1 rfl HC1.out hown2 hb2)
              clear hown2 hgrow2 hb2
              go_wp2
              go_roundw
              case rel => exact ⟨i + 1, by go_num, HR.out⟩
              case measure => simp [intOf]; omega
    · have his : i = s.size := by omega
      have HQL : Hid (quoteL s.data.toList = 34 :: escLB (s.data.toList.take i) ++ [34]) := by
        show _ = _
        rw [quoteL_eq, List.take_of_length_le (by simp; omega)]
        rfl
      have v1 : ¬ (i : Int) < (s.size : Int) := by omega
      have d1 : decide (i < s.size) = false := by simp; omega
      clear his hlt
      go_wp2_with (at_builtin; refine wpList_append_own _ rfl _ _ 22 rfl _ 5 i0 (.int .u8 0) 1 1 Tryd.underlying22 hi hz0 hz1 hz2 rfl (by decide) _ _ _ rfl (World.ownsRow.alloc HOWN.out _) ⟨wr.heap.size, 0, none⟩ 1 1 (u8s [34]) rfl rfl (lit_cells _ _ _) (u8s_one _) (HM1.out 1 (by omega)) (HM2.out 1 (by omega)) (HSZ.out _) ?_; intro v2 w2 hown2 hgrow2 _; refine Hid.out ?_)
      refine Lib.hid ?_
      have hb2 := (HBW.out.alloc HBW.out.size _).grown hgrow2 (HSZ.out _) (fun k hk => (World.ownsRow.lt HOWN.out k hk).1)
      have hown3 : w2.ownsRow w.heap.size 5 1 v2 (quoteL s.data.toList).length (Lib.byteCells (quoteL s.data.toList)) := by
        rw [HQL.out]
        have e1 : Lib.byteCells (34 :: escLB (s.data.toList.take i) ++ [34]) = Lib.byteCells (34 :: escLB (s.data.toList.take i)) ++ u8s [34] := by simp [Lib.byteCells, u8s]
        have e2 : (34 :: escLB (s.data.toList.take i) ++ [34]).length = 1 + fl + 1 := by have := HFLN.out; simp; omega
        rw [e1, e2]
        exact hown2
      have hcv := own_conv hown3
      have HB2 := Lib.hid hb2
      obtain ⟨S, hS⟩ : ∃ S : ByteArray, S = ⟨(quoteL s.data.toList).toArray⟩ := ⟨_, rfl⟩
      rw [← hS] at hcv
      have HS := Lib.hid hS
      clear hS hown2 hown3 hgrow2 hb2
      go_wp2
      go_ret
      exact ⟨by rw [← HS.out]; rfl, HB2.out⟩
end Go.Proofs.YtdafnkfnaknoiaaDoor
