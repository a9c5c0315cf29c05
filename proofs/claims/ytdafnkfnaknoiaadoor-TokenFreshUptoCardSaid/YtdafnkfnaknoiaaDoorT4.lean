/- Contracts of the document's own answer: blank, letter, digit, run, hex. Contract of the document's own answer's skip. Contract of the document's own answer's hex. Contract of the document's own answer's character. -/
import Derived.Test.YtdafnkfnaknoiaaDoorP1
import Derived.WalkKit
import Derived.OwnWalk
import Derived.LoopN
import Derived.WalkSpells
import Derived.WalkLawsBesides
import Derived.Lib.Hide
import Derived.Test.YtdafnkfnaknoiaaDoorC2
namespace Go.Proofs.YtdafnkfnaknoiaaDoor
open Go Go.RowKit
set_option maxHeartbeats 1000000
set_option linter.unusedVariables false
set_option linter.unusedSimpArgs false
theorem digit_r (c : Int) (w : World) : Calls Tryd.prog 58 #[.int .u8 c] w fun e w' => e = .returned (.bool (dgt c)) ∧ w' = w := by
  have hx : (48 ≤ c ∧ c ≤ 57) ∨ (48 ≤ c ∧ 57 < c) ∨ c < 48 := by omega
  have close : ∀ r, dgt c = r → Calls Tryd.prog 58 #[.int .u8 c] w (fun e w' => e = .returned (.bool r) ∧ w' = w) → Calls Tryd.prog 58 #[.int .u8 c] w (fun e w' => e = .returned (.bool (dgt c)) ∧ w' = w) := fun r h1 h2 => by rw [h1]; exact h2
  rcases hx with h | h | h
  · refine close true (by simp [dgt]; omega) ?_
    go_enter Tryd.func58, Tryd.ntmps58
    go_wp2
    go_ret
    exact ⟨by first | rfl | (simp; omega), by first | rfl | trivial⟩
  · refine close false (by simp [dgt]; omega) ?_
    go_enter Tryd.func58, Tryd.ntmps58
    go_wp2
    go_ret
    exact ⟨by first | rfl | (simp; omega), by first | rfl | trivial⟩
  · refine close false (by simp [dgt]; omega) ?_
    go_enter Tryd.func58, Tryd.ntmps58
    go_wp2
    go_ret
    exact ⟨by first | rfl | (simp; omega), by first | rfl | trivial⟩
/-- a letter, the low line too -/
def ltu (c : Int) : Bool := ltr c || c == 95
theorem letter_r (c : Int) (w : World) : Calls Tryd.prog 56 #[.int .u8 c] w fun e w' => e = .returned (.bool (ltu c)) ∧ w' = w := by
  have hx : (97 ≤ c ∧ c ≤ 122) ∨ (97 ≤ c ∧ 122 < c) ∨ (65 ≤ c ∧ c ≤ 90) ∨ (90 < c ∧ c < 97 ∧ c = 95) ∨ (90 < c ∧ c < 97 ∧ c ≠ 95) ∨ c < 65 := by omega
  have close : ∀ r, ltu c = r → Calls Tryd.prog 56 #[.int .u8 c] w (fun e w' => e = .returned (.bool r) ∧ w' = w) → Calls Tryd.prog 56 #[.int .u8 c] w (fun e w' => e = .returned (.bool (ltu c)) ∧ w' = w) := fun r h1 h2 => by rw [h1]; exact h2
  rcases hx with h | h | h | h | h | h
  · refine close true (by simp [ltu, ltr]; omega) ?_
    go_enter Tryd.func56, Tryd.ntmps56
    go_wp2
    go_ret
    exact ⟨by first | rfl | (simp; omega), by first | rfl | trivial⟩
  · refine close false (by simp [ltu, ltr]; omega) ?_
    go_enter Tryd.func56, Tryd.ntmps56
    go_wp2
    go_ret
    exact ⟨by first | rfl | (simp; omega), by first | rfl | trivial⟩
  · refine close true (by simp [ltu, ltr]; omega) ?_
    go_enter Tryd.func56, Tryd.ntmps56
    go_wp2
    go_ret
    exact ⟨by first | rfl | (simp; omega), by first | rfl | trivial⟩
  · obtain ⟨h1, h2, rfl⟩ := h
    refine close true (by decide) ?_
    go_enter Tryd.func56, Tryd.ntmps56
    go_wp2
    go_ret
    exact ⟨by first | rfl | (simp; omega), by first | rfl | trivial⟩
  · refine close false (by simp [ltu, ltr]; omega) ?_
    go_enter Tryd.func56, Tryd.ntmps56
    go_wp2
    go_ret
    exact ⟨by first | rfl | (simp; omega), by first | rfl | trivial⟩
  · refine close false (by simp [ltu, ltr]; omega) ?_
    go_enter Tryd.func56, Tryd.ntmps56
    go_wp2
    go_ret
    exact ⟨by first | rfl | (simp; omega), by first | rfl | trivial⟩
theorem blank_r (c : UInt8) (w : World) : Calls Tryd.prog 55 #[.int .u8 c.toNat] w fun e w' => e = .returned (.bool (blankB c)) ∧ w' = w := by
  have close : ∀ r, blankB c = r → Calls Tryd.prog 55 #[.int .u8 c.toNat] w (fun e w' => e = .returned (.bool r) ∧ w' = w) → Calls Tryd.prog 55 #[.int .u8 c.toNat] w (fun e w' => e = .returned (.bool (blankB c)) ∧ w' = w) := fun r h1 h2 => by rw [h1]; exact h2
  by_cases h1 : c = 32
  · subst h1
    refine close true (by decide) ?_
    go_enter Tryd.func55, Tryd.ntmps55
    go_wp2
    go_ret
    exact ⟨by first | rfl | (simp; omega), by first | rfl | trivial⟩
  by_cases h2 : c = 9
  · subst h2
    refine close true (by decide) ?_
    go_enter Tryd.func55, Tryd.ntmps55
    go_wp2
    go_ret
    exact ⟨by first | rfl | (simp; omega), by first | rfl | trivial⟩
  by_cases h3 : c = 10
  · subst h3
    refine close true (by decide) ?_
    go_enter Tryd.func55, Tryd.ntmps55
    go_wp2
    go_ret
    exact ⟨by first | rfl | (simp; omega), by first | rfl | trivial⟩
  by_cases h4 : c = 13
  · subst h4
    refine close true (by decide) ?_
    go_enter Tryd.func55, Tryd.ntmps55
    go_wp2
    go_ret
    exact ⟨by first | rfl | (simp; omega), by first | rfl | trivial⟩
  refine close false (by simp [blankB, h1, h2, h3, h4]) ?_
  obtain ⟨n, hn⟩ : ∃ n : Nat, n = c.toNat := ⟨_, rfl⟩
  have n1 : n ≠ 32 := fun e => h1 (UInt8.toNat_inj.1 (by rw [← hn, e]; rfl))
  have n2 : n ≠ 9 := fun e => h2 (UInt8.toNat_inj.1 (by rw [← hn, e]; rfl))
  have n3 : n ≠ 10 := fun e => h3 (UInt8.toNat_inj.1 (by rw [← hn, e]; rfl))
  have n4 : n ≠ 13 := fun e => h4 (UInt8.toNat_inj.1 (by rw [← hn, e]; rfl))
  have b1 : ((n : Int) == 32) = false := by simp; omega
  have b2 : ((n : Int) == 9) = false := by simp; omega
  have b3 : ((n : Int) == 10) = false := by simp; omega
  have b4 : ((n : Int) == 13) = false := by simp; omega
  rw [← hn]
  clear close h1 h2 h3 h4 hn n1 n2 n3 n4
  go_enter Tryd.func55, Tryd.ntmps55
  go_wp2
  go_ret
  exact ⟨by first | rfl | (simp; omega), by first | rfl | trivial⟩
/-- does the byte go on a run: of digits, or of letters too? -/
def goes (b : Bool) (c : UInt8) : Bool := dgt (c.toNat : Int) || (b && ltu (c.toNat : Int))
def rl (b : Bool) (l : List UInt8) : Nat := (l.takeWhile (goes b)).length
theorem goes_true (c : UInt8) : goes true c = isW c := by
  unfold goes isW wch ltu
  rw [Bool.true_and, Bool.or_assoc]
theorem rl_true (l : List UInt8) : rl true l = wl l := by
  unfold rl wl
  rw [show goes true = isW from funext goes_true]
theorem drop_at {s : ByteArray} {k : Nat} (h : k < s.size) : s.data.toList.drop k = s[k] :: s.data.toList.drop (k + 1) := by
  have hl : k < s.data.toList.length := by simpa using h
  rw [List.drop_eq_getElem_cons hl]
  rfl
theorem run_r (s : ByteArray) (i : Nat) (b : Bool) (hi : i ≤ s.size) (hsz : s.size ≤ 140737488355328) (w : World) : Calls Tryd.prog 57 #[.string s, .int .i64 i, .bool b] w fun e w' => e = .returned (.int .i64 ((i + rl b (s.data.toList.drop i) : Nat) : Int)) ∧ w' = w := by
  obtain ⟨z, hz⟩ : ∃ z, z = i + rl b (s.data.toList.drop i) := ⟨_, rfl⟩
  have HZ0 := Lib.hid hz
  rw [← hz]
  clear hz
  go_enter Tryd.func57, Tryd.ntmps57
  go_wp2
  go_loopw [1] (fun iv wr => ∃ k : Nat, iv = .int .i64 k ∧ k ≤ s.size ∧ z = k + rl b (s.data.toList.drop k) ∧ wr = w) (fun iv _ => s.size - (intOf iv).toNat)
  case atStart => exact ⟨i, rfl, hi, HZ0.out, rfl⟩
  case round =>
    obtain ⟨k, rfl, hk, he, rfl⟩ := hrel
    have HE := Lib.hid he
    clear he
    by_cases hlt : k < s.size
    · have hd := drop_at hlt
      have v1 : (k : Int) < (s.size : Int) := by omega
      have v2 : (s.size : Int) ≤ 140737488355328 := by omega
      have hgo : (rl b (s.data.toList.drop k) = 1 + rl b (s.data.toList.drop (k + 1)) ∧ goes b s[k] = true) ∨ (rl b (s.data.toList.drop k) = 0 ∧ goes b s[k] = false) := by
        cases hg : goes b s[k]
        · right
          refine ⟨?_, rfl⟩
          unfold rl
          rw [hd, List.takeWhile_cons_of_neg (by simp [hg])]
          rfl
        · left
          refine ⟨?_, rfl⟩
          unfold rl
          rw [hd, List.takeWhile_cons_of_pos hg, List.length_cons]
          omega
      clear hd
      cases h1 : dgt (s[k].toNat : Int) <;> cases b <;> cases h2 : ltu (s[k].toNat : Int)
      all_goals
        have hgo2 : _ := hgo
        unfold goes at hgo2
        rw [h1, h2] at hgo2
        simp only [Bool.or_true, Bool.or_false, Bool.and_true, Bool.and_false, Bool.false_and, Bool.true_and, Bool.false_or, Bool.true_or, Bool.or_self, and_true, and_false, or_false, false_or, reduceCtorEq, eq_self] at hgo2
        have HG := Lib.hid hgo2
        clear hgo hgo2
        go_wp2_with (first | (go_at_call 58; refine (digit_r _ _).mono ?_; rintro e w' ⟨rfl, hw'⟩; obtain rfl := hw'.symm; rw [h1]) | (go_at_call 56; refine (letter_r _ _).mono ?_; rintro e w' ⟨rfl, hw'⟩; obtain rfl := hw'.symm; rw [h2]))
        first
          | (go_ret
             exact ⟨by rw [HE.out, HG.out]; rfl, by first | rfl | trivial⟩)
          | (go_roundw
             case rel => exact ⟨k + 1, by go_num, by omega, by rw [HE.out, HG.out]; omega, by first | rfl | trivial⟩
             case measure => simp [intOf]; omega)
    · have hz : rl b (s.data.toList.drop k) = 0 := by
        rw [List.drop_eq_nil_of_le (by simp; omega)]
        rfl
      have HZ := Lib.hid hz
      clear hz
      have v1 : ¬ (k : Int) < (s.size : Int) := by omega
      have d1 : decide (k < s.size) = false := by simp; omega
      go_wp2
      go_ret
      exact ⟨by rw [HE.out, HZ.out]; rfl, by first | rfl | trivial⟩
end Go.Proofs.YtdafnkfnaknoiaaDoor
namespace Go.Proofs.YtdafnkfnaknoiaaDoor
open Go Go.RowKit
set_option maxHeartbeats 1000000
set_option linter.unusedVariables false
set_option linter.unusedSimpArgs false
/-- what a text is behind blanks and notes -/
def Rest (l : List UInt8) : Prop := l = [] ∨ ∃ c t, l = c :: t ∧ blankB c = false ∧ ¬ (c = 45 ∧ t.head? = some 45)
theorem scan_blank1 (p : Nat) (R : List Tk) (c : UInt8) (t : List UInt8) (h : blankB c = true) : scanT p R (c :: t) = scanT (p + 1) R t := by
  rw [scanT_eq, show stepL (c :: t) p = .skip 1 by unfold stepL; simp only; rw [if_pos h]]
  rfl
theorem scan_note1 (p : Nat) (R : List Tk) (t : List UInt8) (h : t.head? = some 45) : scanT p R (45 :: t) = scanT (p + noteL (45 :: t)) R ((45 :: t).drop (noteL (45 :: t))) := by
  rw [scanT_eq, show stepL (45 :: t) p = .skip (noteL (45 :: t)) by unfold stepL; simp only [true_and]; rw [if_neg (by decide), if_pos h]]
theorem noteL_cons {c : UInt8} (t : List UInt8) (h : c ≠ 10) : noteL (c :: t) = 1 + noteL t := by
  unfold noteL
  rw [List.takeWhile_cons_of_pos (by simpa using h), List.length_cons]
  omega
theorem noteL_stop (t : List UInt8) : noteL (10 :: t) = 0 := by
  unfold noteL
  rw [List.takeWhile_cons_of_neg (by decide)]
  rfl
set_option maxRecDepth 100000 in
theorem skip_r (s : ByteArray) (i : Nat) (hi : i ≤ s.size) (hsz : s.size ≤ 140737488355328) (w : World) : Calls Tryd.prog 39 #[.string s, .int .i64 i] w fun e w' => (∃ j : Nat, e = .returned (.int .i64 j) ∧ i ≤ j ∧ j ≤ s.size ∧ (∀ R, scanT i R (s.data.toList.drop i) = scanT j R (s.data.toList.drop j)) ∧ Rest (s.data.toList.drop j)) ∧ w' = w := by
  go_enter Tryd.func39, Tryd.ntmps39
  go_wp2
  go_loopw [1] (fun iv wr => ∃ k : Nat, iv = .int .i64 k ∧ i ≤ k ∧ k ≤ s.size ∧ (∀ R, scanT i R (s.data.toList.drop i) = scanT k R (s.data.toList.drop k)) ∧ wr = w) (fun iv _ => s.size - (intOf iv).toNat)
  case atStart => exact ⟨i, rfl, Nat.le_refl _, hi, fun R => rfl, rfl⟩
  case round =>
    obtain ⟨k, rfl, hik, hk, he, rfl⟩ := hrel
    have HE := Lib.hid he
    clear he
    have v2 : (s.size : Int) ≤ 140737488355328 := by omega
    by_cases hlt : k < s.size
    · have hd := drop_at hlt
      have HD := Lib.hid hd
      have v1 : (k : Int) < (s.size : Int) := by omega
      clear hd
      have hkl : k < s.size := hlt
      obtain ⟨n, hn⟩ : ∃ n : Nat, n = s[k].toNat := ⟨_, rfl⟩
      have F0 : (s[k].toNat : Int) = n := by rw [hn]
      have HBL : Hid (∀ wx, Calls Tryd.prog 55 #[.int .u8 n] wx fun e w' => e = .returned (.bool (blankB s[k])) ∧ w' = wx) := fun wx => by rw [hn]; exact blank_r _ wx
      have HN := Lib.hid hn
      clear hn
      obtain ⟨B, hB⟩ : ∃ B, B = blankB s[k] := ⟨_, rfl⟩
      rw [← hB] at HBL
      have HB := Lib.hid hB
      clear hB
      cases B
      · by_cases h45 : n = 45
        · have e1 : ((n : Int) == 45) = true := by simp; omega
          have e1' : ((n : Int) != 45) = false := by simp only [bne, e1]; rfl
          have H45 : Hid (s[k] = 45) := UInt8.toNat_inj.1 ((HN.out.symm.trans h45).trans rfl)
          clear h45
          by_cases hk1 : k + 1 < s.size
          · have v3 : (k : Int) + 1 < (s.size : Int) := by omega
            have d3 : decide ((s.size : Int) ≤ (k : Int) + 1) = false := by simp; omega
            obtain ⟨m, hm⟩ : ∃ m : Nat, m = (s[k + 1]'hk1).toNat := ⟨_, rfl⟩
            have F1 : ((s[k + 1]'hk1).toNat : Int) = m := by rw [hm]
            have HM := Lib.hid hm
            clear hm
            by_cases h46 : m = 45
            · have e2 : ((m : Int) == 45) = true := by simp; omega
              have e2' : ((m : Int) != 45) = false := by simp only [bne, e2]; rfl
              have hh : (s.data.toList.drop (k + 1)).head? = some 45 := by
                rw [drop_at hk1, List.head?_cons, show s[k + 1] = 45 from UInt8.toNat_inj.1 ((HM.out.symm.trans h46).trans rfl)]
              have HH := Lib.hid hh
              clear hh h46
              go_wp2_with (go_at_call 55; refine (HBL.out _).mono ?_; rintro e w' ⟨rfl, hw'⟩; obtain rfl := hw'.symm)
              go_loopw [1] (fun iv wx => ∃ x : Nat, iv = .int .i64 x ∧ k ≤ x ∧ x ≤ s.size ∧ noteL (s.data.toList.drop k) = (x - k) + noteL (s.data.toList.drop x) ∧ wx = wr) (fun iv _ => s.size - (intOf iv).toNat)
              case atStart => exact ⟨k, rfl, Nat.le_refl _, hk, by omega, rfl⟩
              case round =>
                obtain ⟨x, rfl, hkx, hx, hnl, rfl⟩ := hrel
                have HNL := Lib.hid hnl
                clear hnl
                have hpos : 0 < noteL (s.data.toList.drop k) := by
                  rw [HD.out, H45.out, noteL_cons _ (by decide)]
                  omega
                have HPOS := Lib.hid hpos
                clear hpos
                by_cases hxs : x < s.size
                · have v4 : (x : Int) < (s.size : Int) := by omega
                  obtain ⟨q, hq⟩ : ∃ q : Nat, q = s[x].toNat := ⟨_, rfl⟩
                  have F2 : (s[x].toNat : Int) = q := by rw [hq]
                  have HQ := Lib.hid hq
                  clear hq
                  by_cases h10 : q = 10
                  · have e3 : ((q : Int) == 10) = true := by simp; omega
                    have e3' : ((q : Int) != 10) = false := by simp only [bne, e3]; rfl
                    have hz : noteL (s.data.toList.drop x) = 0 := by
                      rw [drop_at hxs, show s[x] = 10 from UInt8.toNat_inj.1 ((HQ.out.symm.trans h10).trans rfl), noteL_stop]
                    have HZ := Lib.hid hz
                    clear hz h10
                    go_wp2
                    go_roundw
                    case rel =>
                      have hf : noteL (s.data.toList.drop k) = x - k := by rw [HNL.out, HZ.out, Nat.add_zero]
                      refine ⟨x, rfl, by omega, hx, fun R => ?_, by first | rfl | trivial⟩
                      have h2 := scan_note1 k R _ HH.out
                      rw [← H45.out, ← HD.out, hf, List.drop_drop, show k + (x - k) = x by omega] at h2
                      rw [HE.out R, h2]
                    case measure =>
                      have hf : noteL (s.data.toList.drop k) = x - k := by rw [HNL.out, HZ.out, Nat.add_zero]
                      have := HPOS.out
                      simp [intOf]; omega
                  · have e3 : ((q : Int) == 10) = false := by simp; omega
                    have e3' : ((q : Int) != 10) = true := by simp only [bne, e3]; rfl
                    have hz : noteL (s.data.toList.drop x) = 1 + noteL (s.data.toList.drop (x + 1)) := by
                      rw [drop_at hxs, noteL_cons _ (fun h => h10 (HQ.out.trans (by rw [h]; rfl)))]
                    have HZ := Lib.hid hz
                    clear hz h10
                    go_wp2
                    go_roundw
                    case rel => exact ⟨x + 1, by go_num, by omega, by omega, by rw [HNL.out, HZ.out]; omega, by first | rfl | trivial⟩
                    case measure => simp [intOf]; omega
                · have d4 : decide (x < s.size) = false := by simp; omega
                  have hz : noteL (s.data.toList.drop x) = 0 := by
                    rw [List.drop_eq_nil_of_le (by simp; omega)]
                    rfl
                  have HZ := Lib.hid hz
                  clear hz
                  go_wp2
                  go_roundw
                  case rel =>
                    have hf : noteL (s.data.toList.drop k) = x - k := by rw [HNL.out, HZ.out, Nat.add_zero]
                    refine ⟨x, rfl, by omega, hx, fun R => ?_, by first | rfl | trivial⟩
                    have h2 := scan_note1 k R _ HH.out
                    rw [← H45.out, ← HD.out, hf, List.drop_drop, show k + (x - k) = x by omega] at h2
                    rw [HE.out R, h2]
                  case measure =>
                    have hf : noteL (s.data.toList.drop k) = x - k := by rw [HNL.out, HZ.out, Nat.add_zero]
                    have := HPOS.out
                    simp [intOf]; omega
            · have e2 : ((m : Int) == 45) = false := by simp; omega
              have e2' : ((m : Int) != 45) = true := by simp only [bne, e2]; rfl
              have hrest : Rest (s.data.toList.drop k) := .inr ⟨s[k], s.data.toList.drop (k + 1), HD.out, HB.out.symm, fun ⟨_, h⟩ => by
                rw [drop_at hk1, List.head?_cons] at h
                exact h46 (HM.out.trans (by rw [Option.some.inj h]; rfl))⟩
              have HR := Lib.hid hrest
              clear hrest h46
              go_wp2_with (go_at_call 55; refine (HBL.out _).mono ?_; rintro e w' ⟨rfl, hw'⟩; obtain rfl := hw'.symm)
              go_ret
              exact ⟨⟨k, rfl, hik, hk, HE.out, HR.out⟩, by first | rfl | trivial⟩
          · have d3 : decide ((s.size : Int) ≤ (k : Int) + 1) = true := by simp; omega
            have hrest : Rest (s.data.toList.drop k) := .inr ⟨s[k], s.data.toList.drop (k + 1), HD.out, HB.out.symm, fun ⟨_, h⟩ => by
              rw [List.drop_eq_nil_of_le (by simp; omega)] at h
              cases h⟩
            have HR := Lib.hid hrest
            clear hrest
            go_wp2_with (go_at_call 55; refine (HBL.out _).mono ?_; rintro e w' ⟨rfl, hw'⟩; obtain rfl := hw'.symm)
            go_ret
            exact ⟨⟨k, rfl, hik, hk, HE.out, HR.out⟩, by first | rfl | trivial⟩
        · have e1 : ((n : Int) == 45) = false := by simp; omega
          have e1' : ((n : Int) != 45) = true := by simp only [bne, e1]; rfl
          have hrest : Rest (s.data.toList.drop k) := .inr ⟨s[k], s.data.toList.drop (k + 1), HD.out, HB.out.symm, fun ⟨h, _⟩ => h45 (HN.out.trans (by rw [h]; rfl))⟩
          have HR := Lib.hid hrest
          clear hrest h45
          go_wp2_with (go_at_call 55; refine (HBL.out _).mono ?_; rintro e w' ⟨rfl, hw'⟩; obtain rfl := hw'.symm)
          go_ret
          exact ⟨⟨k, rfl, hik, hk, HE.out, HR.out⟩, by first | rfl | trivial⟩
      · go_wp2_with (go_at_call 55; refine (HBL.out _).mono ?_; rintro e w' ⟨rfl, hw'⟩; obtain rfl := hw'.symm)
        go_roundw
        case rel => exact ⟨k + 1, by go_num, by omega, by omega, fun R => by rw [HE.out R, HD.out, scan_blank1 _ _ _ _ HB.out.symm], by first | rfl | trivial⟩
        case measure => simp [intOf]; omega
    · have hrest : Rest (s.data.toList.drop k) := .inl (List.drop_eq_nil_of_le (by simp; omega))
      have HR := Lib.hid hrest
      clear hrest
      have d1 : decide (k < s.size) = false := by simp; omega
      go_wp2
      go_ret
      exact ⟨⟨k, rfl, hik, hk, HE.out, HR.out⟩, by first | rfl | trivial⟩
end Go.Proofs.YtdafnkfnaknoiaaDoor
namespace Go.Proofs.YtdafnkfnaknoiaaDoor
open Go Go.RowKit
set_option maxHeartbeats 1000000
set_option linter.unusedVariables false
set_option linter.unusedSimpArgs false
def loD : ByteArray := ⟨#[48, 49, 50, 51, 52, 53, 54, 55, 56, 57, 97, 98, 99, 100, 101, 102]⟩
def upD : ByteArray := ⟨#[48, 49, 50, 51, 52, 53, 54, 55, 56, 57, 65, 66, 67, 68, 69, 70]⟩
theorem loD_at : ∀ k : Fin 16, ((loD[k.val]'k.isLt).toNat = if k.val < 10 then 48 + k.val else 87 + k.val) := by decide
theorem upD_at : ∀ k : Fin 16, ((upD[k.val]'k.isLt).toNat = if k.val < 10 then 48 + k.val else 55 + k.val) := by decide
def hexI (c : UInt8) : Int := match hexV c with | none => -1 | some x => x
theorem hexI_of {n : Nat} {c : UInt8} (hn : n = c.toNat) (k : Nat) (hk : k < 16) (h : n = (if k < 10 then 48 + k else 87 + k) ∨ n = (if k < 10 then 48 + k else 55 + k)) : hexI c = k := by
  unfold hexI hexV
  rw [← hn]
  by_cases hk10 : k < 10
  · rw [if_pos hk10, if_pos hk10] at h
    rw [if_pos (by omega)]
    simp only
    omega
  · rw [if_neg hk10, if_neg hk10] at h
    rw [if_neg (by omega)]
    rcases h with h | h
    · rw [if_pos (by omega)]
      simp only
      omega
    · rw [if_neg (by omega), if_pos (by omega)]
      simp only
      omega
theorem hexI_none {n : Nat} {c : UInt8} (hn : n = c.toNat) (h : ∀ k, k < 16 → n ≠ (if k < 10 then 48 + k else 87 + k) ∧ n ≠ (if k < 10 then 48 + k else 55 + k)) : hexI c = -1 := by
  have h1 : ¬ (48 ≤ n ∧ n ≤ 57) := fun ⟨a, b⟩ => (h (n - 48) (by omega)).1 (by rw [if_pos (by omega)]; omega)
  have h2 : ¬ (97 ≤ n ∧ n ≤ 102) := fun ⟨a, b⟩ => (h (n - 87) (by omega)).1 (by rw [if_neg (by omega)]; omega)
  have h3 : ¬ (65 ≤ n ∧ n ≤ 70) := fun ⟨a, b⟩ => (h (n - 55) (by omega)).2 (by rw [if_neg (by omega)]; omega)
  unfold hexI hexV
  rw [← hn, if_neg h1, if_neg h2, if_neg h3]
set_option maxRecDepth 100000 in
theorem hex_r (c : UInt8) (w : World) : Calls Tryd.prog 82 #[.int .u8 c.toNat] w fun e w' => e = .returned (.int .i64 (hexI c)) ∧ w' = w := by
  obtain ⟨z, hz⟩ : ∃ z, z = hexI c := ⟨_, rfl⟩
  obtain ⟨n, hn⟩ : ∃ n : Nat, n = c.toNat := ⟨_, rfl⟩
  have HYes : Hid (∀ k : Nat, k < 16 → (n = (if k < 10 then 48 + k else 87 + k) ∨ n = (if k < 10 then 48 + k else 55 + k)) → z = (k : Int)) := fun k hk h => by rw [hz]; exact hexI_of hn k hk h
  have HNo : Hid ((∀ k : Nat, k < 16 → n ≠ (if k < 10 then 48 + k else 87 + k) ∧ n ≠ (if k < 10 then 48 + k else 55 + k)) → z = -1) := fun h => by rw [hz]; exact hexI_none hn h
  rw [← hz, ← hn]
  clear hz hn
  obtain ⟨A, hA⟩ : ∃ A, A = loD := ⟨_, rfl⟩
  obtain ⟨B, hB⟩ : ∃ B, B = upD := ⟨_, rfl⟩
  have hA' : (⟨#[48, 49, 50, 51, 52, 53, 54, 55, 56, 57, 97, 98, 99, 100, 101, 102]⟩ : ByteArray) = A := hA.symm
  have hB' : (⟨#[48, 49, 50, 51, 52, 53, 54, 55, 56, 57, 65, 66, 67, 68, 69, 70]⟩ : ByteArray) = B := hB.symm
  have hAz : A.size = 16 := by rw [hA]; rfl
  have hBz : B.size = 16 := by rw [hB]; rfl
  have HA : Hid (∀ k (h : k < 16), (A[k]'(by omega)).toNat = if k < 10 then 48 + k else 87 + k) := fun k h => by subst hA; exact loD_at ⟨k, h⟩
  have HB : Hid (∀ k (h : k < 16), (B[k]'(by omega)).toNat = if k < 10 then 48 + k else 55 + k) := fun k h => by subst hB; exact upD_at ⟨k, h⟩
  clear hA hB
  go_enter Tryd.func82, Tryd.ntmps82
  go_wp2
  rw [hA', hB']
  clear hA' hB'
  go_loopw [5] (fun iv wr => ∃ k : Nat, iv = .int .i64 k ∧ k ≤ 16 ∧ (∀ j : Nat, j < k → n ≠ (if j < 10 then 48 + j else 87 + j) ∧ n ≠ (if j < 10 then 48 + j else 55 + j)) ∧ wr = w) (fun iv _ => 16 - (intOf iv).toNat)
  case atStart => exact ⟨0, rfl, by omega, fun j hj => absurd hj (Nat.not_lt_zero _), rfl⟩
  case round =>
    obtain ⟨k, rfl, hk, hall, rfl⟩ := hrel
    have HALL := Lib.hid hall
    clear hall
    by_cases hlt : k < 16
    · have v1 : (k : Int) < 16 := by omega
      have hkA : k < A.size := by omega
      have hkB : k < B.size := by omega
      obtain ⟨a, ha⟩ : ∃ a : Nat, a = (A[k]'hkA).toNat := ⟨_, rfl⟩
      obtain ⟨b, hb⟩ : ∃ b : Nat, b = (B[k]'hkB).toNat := ⟨_, rfl⟩
      have FA : ((A[k]'hkA).toNat : Int) = a := by rw [ha]
      have FB : ((B[k]'hkB).toNat : Int) = b := by rw [hb]
      have ha2 : a = if k < 10 then 48 + k else 87 + k := by rw [ha]; exact HA.out k hlt
      have hb2 : b = if k < 10 then 48 + k else 55 + k := by rw [hb]; exact HB.out k hlt
      have HA2 := Lib.hid ha2
      have HB2 := Lib.hid hb2
      clear ha hb ha2 hb2
      by_cases h1 : a = n
      · have e1 : ((a : Int) == (n : Int)) = true := by simp; omega
        have hz : z = (k : Int) := HYes.out k hlt (.inl (h1.symm.trans HA2.out))
        have HZ := Lib.hid hz
        clear hz h1
        go_wp2
        go_ret
        exact ⟨by rw [HZ.out]; rfl, by first | rfl | trivial⟩
      · have e1 : ((a : Int) == (n : Int)) = false := by simp; omega
        by_cases h2 : b = n
        · have e2 : ((b : Int) == (n : Int)) = true := by simp; omega
          have hz : z = (k : Int) := HYes.out k hlt (.inr (h2.symm.trans HB2.out))
          have HZ := Lib.hid hz
          clear hz h1 h2
          go_wp2
          go_ret
          exact ⟨by rw [HZ.out]; rfl, by first | rfl | trivial⟩
        · have e2 : ((b : Int) == (n : Int)) = false := by simp; omega
          have hn2 : n ≠ (if k < 10 then 48 + k else 87 + k) ∧ n ≠ (if k < 10 then 48 + k else 55 + k) := ⟨fun h => h1 (HA2.out.trans h.symm), fun h => h2 (HB2.out.trans h.symm)⟩
          have HN2 := Lib.hid hn2
          clear hn2 h1 h2
          go_wp2
          go_roundw
          case rel => exact ⟨k + 1, by go_num, by omega, fun j hj => by
            rcases Nat.lt_or_eq_of_le (Nat.le_of_lt_succ hj) with h | h
            · exact HALL.out j h
            · subst h; exact HN2.out, by first | rfl | trivial⟩
          case measure => simp [intOf]; omega
    · have hk16 : k = 16 := by omega
      subst hk16
      have hz : z = -1 := HNo.out HALL.out
      have HZ := Lib.hid hz
      clear hz
      go_wp2
      go_ret
      exact ⟨by rw [HZ.out]; rfl, by first | rfl | trivial⟩
end Go.Proofs.YtdafnkfnaknoiaaDoor
namespace Go.Proofs.YtdafnkfnaknoiaaDoor
open Go Go.RowKit
set_option maxHeartbeats 1000000
set_option linter.unusedVariables false
set_option linter.unusedSimpArgs false
/-- what the document's reader of a character answers -/
def chR : Ch → Value
  | .opn => .tuple #[.int .u8 0, .int .i64 0, .int .i64 (-1), .int .i64 52]
  | .bad E => .tuple #[.int .u8 0, .int .i64 0, .int .i64 0, .int .i64 E]
  | .ok b n => .tuple #[.int .u8 b.toNat, .int .i64 n, .int .i64 0, .int .i64 0]
theorem u8_of {c : UInt8} {n : Nat} (hn : n = c.toNat) {k : Nat} (hk : k < 256) (h : n = k) : c = UInt8.ofNat k := by
  apply UInt8.toNat_inj.1
  rw [← hn, h, UInt8.toNat_ofNat']
  omega
theorem u8_ne {c : UInt8} {n : Nat} (hn : n = c.toNat) {k : Nat} (hk : k < 256) (h : n ≠ k) : c ≠ UInt8.ofNat k := fun e => h (by rw [hn, e, UInt8.toNat_ofNat']; omega)
theorem results_tmp4 {fn : Func} {t u v x : Tmp} (h : fn.results = #[.tmp t, .tmp u, .tmp v, .tmp x]) (tmps : Array Value) (P : Program) (w : World) :
    (results fn tmps).run P w = .ok (.tuple #[tmps.getD t undef, tmps.getD u undef, tmps.getD v undef, tmps.getD x undef]) w := by
  simp [results, h]
set_option maxRecDepth 100000 in
theorem character_r (s : ByteArray) (i : Nat) (hi : i < s.size) (hsz : s.size ≤ 140737488355328) (w : World) : Calls Tryd.prog 73 #[.string s, .int .i64 i] w fun e w' => e = .returned (chR (charL (s.data.toList.drop i))) ∧ w' = w := by
  have hv2 : (s.size : Int) ≤ 140737488355328 := by omega
  have hv1 : (i : Int) < (s.size : Int) := by omega
  obtain ⟨n, hn⟩ : ∃ n : Nat, n = s[i].toNat := ⟨_, rfl⟩
  have F0 : (s[i].toNat : Int) = n := by rw [hn]
  have HN := Lib.hid hn
  have hn2 : n < 256 := by rw [hn]; exact s[i].toNat_lt
  have hd := drop_at hi
  by_cases hr : n < 32 ∨ 126 < n
  · have He : Hid (charL (s.data.toList.drop i) = .bad 50) := by show _ = _; rw [hd, charL, if_pos (by rw [← hn]; exact hr)]
    clear hd hn
    rcases hr with hr | hr
    all_goals
      go_enter Tryd.func73, Tryd.ntmps73
      go_wp2
      (try simp only [Exit.inBlock, Exit.then]); refine bodyPost_ret (results_tmp4 rfl _ _ _) rfl ?_
      refine ⟨?_, by first | rfl | trivial⟩
      rw [He.out]
      rfl
  · have r1 : 32 ≤ n := by omega
    have r2 : n ≤ 126 := by omega
    by_cases q : n = 92
    · have hc : s[i] = 92 := u8_of (k := 92) hn (by decide) q
      have He : Hid (charL (s.data.toList.drop i) = escC (s.data.toList.drop (i + 1))) := by show _ = _; rw [hd, charL, if_neg (by rw [← hn]; exact hr), if_pos hc]
      have hq : (n : Int) = 92 := by omega
      clear hd hn hc r1 r2 hr q
      by_cases hi1 : i + 1 < s.size
      · have v3 : (i : Int) + 1 < (s.size : Int) := by omega
        obtain ⟨m, hm⟩ : ∃ m : Nat, m = (s[i + 1]'hi1).toNat := ⟨_, rfl⟩
        have F1 : ((s[i + 1]'hi1).toNat : Int) = m := by rw [hm]
        have hm2 : m < 256 := by rw [hm]; exact (s[i + 1]'hi1).toNat_lt
        have hd1 := drop_at hi1
        by_cases m34 : m = 34
        · have He2 : Hid (escC (s.data.toList.drop (i + 1)) = .ok 34 2) := by
            show _ = _
            rw [hd1, u8_of hm (by omega) m34]
            rfl
          have hq1 : (m : Int) = 34 := by omega
          clear hd1 hm m34
          go_enter Tryd.func73, Tryd.ntmps73
          go_wp2
          (try simp only [Exit.inBlock, Exit.then]); refine bodyPost_ret (results_tmp4 rfl _ _ _) rfl ?_
          refine ⟨?_, by first | rfl | trivial⟩
          rw [He.out, He2.out]
          simp [chR, hq1]
        by_cases m92 : m = 92
        · have He2 : Hid (escC (s.data.toList.drop (i + 1)) = .ok 92 2) := by
            show _ = _
            rw [hd1, u8_of hm (by omega) m92]
            rfl
          have hq1 : (m : Int) = 92 := by omega
          clear hd1 hm m92 m34
          go_enter Tryd.func73, Tryd.ntmps73
          go_wp2
          (try simp only [Exit.inBlock, Exit.then]); refine bodyPost_ret (results_tmp4 rfl _ _ _) rfl ?_
          refine ⟨?_, by first | rfl | trivial⟩
          rw [He.out, He2.out]
          simp [chR, hq1]
        have b34 : ((m : Int) == 34) = false := by simp; omega
        have b92 : ((m : Int) == 92) = false := by simp; omega
        by_cases m110 : m = 110
        · have He2 : Hid (escC (s.data.toList.drop (i + 1)) = .ok 10 2) := by
            show _ = _
            rw [hd1, u8_of hm (by omega) m110]
            rfl
          have hq1 : (m : Int) = 110 := by omega
          clear hd1 hm m92 m34 m110
          go_enter Tryd.func73, Tryd.ntmps73
          go_wp2
          (try simp only [Exit.inBlock, Exit.then]); refine bodyPost_ret (results_tmp4 rfl _ _ _) rfl ?_
          refine ⟨?_, by first | rfl | trivial⟩
          rw [He.out, He2.out]
          rfl
        by_cases m116 : m = 116
        · have He2 : Hid (escC (s.data.toList.drop (i + 1)) = .ok 9 2) := by
            show _ = _
            rw [hd1, u8_of hm (by omega) m116]
            rfl
          have hq1 : (m : Int) = 116 := by omega
          clear hd1 hm m92 m34 m110 m116
          go_enter Tryd.func73, Tryd.ntmps73
          go_wp2
          (try simp only [Exit.inBlock, Exit.then]); refine bodyPost_ret (results_tmp4 rfl _ _ _) rfl ?_
          refine ⟨?_, by first | rfl | trivial⟩
          rw [He.out, He2.out]
          rfl
        have b110 : ((m : Int) == 110) = false := by simp; omega
        have b116 : ((m : Int) == 116) = false := by simp; omega
        by_cases m120 : m = 120
        · have He2 : Hid (escC (s.data.toList.drop (i + 1)) = hexL (s.data.toList.drop (i + 2))) := by
            show _ = _
            rw [hd1, u8_of hm (by omega) m120]
            rfl
          have hq1 : (m : Int) = 120 := by omega
          clear hd1 hm m92 m34 m110 m116 m120
          by_cases hi2 : i + 2 < s.size
          · have v4 : (i : Int) + 2 < (s.size : Int) := by omega
            have d2 : decide ((s.size : Int) ≤ (i : Int) + 2) = false := by simp; omega
            have hd2 := drop_at hi2
            obtain ⟨n2, hn2⟩ : ∃ n2 : Nat, n2 = (s[i + 2]'hi2).toNat := ⟨_, rfl⟩
            have F2 : ((s[i + 2]'hi2).toNat : Int) = n2 := by rw [hn2]
            have HX2 : Hid (∀ wx, Calls Tryd.prog 82 #[.int .u8 n2] wx fun e w' => e = .returned (.int .i64 (hexI (s[i + 2]'hi2))) ∧ w' = wx) := fun wx => by rw [hn2]; exact hex_r _ wx
            clear hn2
            rcases hv : hexV (s[i + 2]'hi2) with _ | x
            · have He3 : Hid (hexL (s.data.toList.drop (i + 2)) = .bad 51) := by show _ = _; rw [hd2]; simp [hexL, hv]
              rw [show hexI (s[i + 2]'hi2) = -1 by unfold hexI; rw [hv]] at HX2
              clear hd2 hv
              go_enter Tryd.func73, Tryd.ntmps73
              go_wp2_with fail
              refine wp_loop_rounds 3 ?_
              rw [rounds_succ]
              go_wp2_with (go_at_call 82; refine (HX2.out _).mono ?_; rintro e w' ⟨rfl, hw⟩; obtain rfl := hw.symm)
              (try simp only [Exit.inBlock, Exit.then]); refine bodyPost_ret (results_tmp4 rfl _ _ _) rfl ?_
              refine ⟨?_, by first | rfl | trivial⟩
              rw [He.out, He2.out, He3.out]
              rfl
            · have hx := hexV_lt hv
              rw [show hexI (s[i + 2]'hi2) = (x : Int) by unfold hexI; rw [hv]] at HX2
              have vx : ¬ (x : Int) < 0 := by omega
              have dx : decide ((x : Int) < 0) = false := by simp
              by_cases hi3 : i + 3 < s.size
              · have v5 : (i : Int) + 3 < (s.size : Int) := by omega
                have d3 : decide ((s.size : Int) ≤ (i : Int) + 3) = false := by simp; omega
                have hd3 := drop_at hi3
                obtain ⟨n3, hn3⟩ : ∃ n3 : Nat, n3 = (s[i + 3]'hi3).toNat := ⟨_, rfl⟩
                have F3 : ((s[i + 3]'hi3).toNat : Int) = n3 := by rw [hn3]
                have HX3 : Hid (∀ wx, Calls Tryd.prog 82 #[.int .u8 n3] wx fun e w' => e = .returned (.int .i64 (hexI (s[i + 3]'hi3))) ∧ w' = wx) := fun wx => by rw [hn3]; exact hex_r _ wx
                clear hn3
                rcases hv3 : hexV (s[i + 3]'hi3) with _ | y
                · have He3 : Hid (hexL (s.data.toList.drop (i + 2)) = .bad 51) := by show _ = _; rw [hd2, hd3]; simp [hexL, hv, hv3]
                  rw [show hexI (s[i + 3]'hi3) = -1 by unfold hexI; rw [hv3]] at HX3
                  clear hd2 hd3 hv hv3
                  go_enter Tryd.func73, Tryd.ntmps73
                  go_wp2_with fail
                  refine wp_loop_rounds 3 ?_
                  rw [rounds_succ]
                  go_wp2_with (go_at_call 82; refine (HX2.out _).mono ?_; rintro e w' ⟨rfl, hw⟩; obtain rfl := hw.symm)
                  rw [rounds_succ]
                  go_wp2_with (go_at_call 82; refine (HX3.out _).mono ?_; rintro e w' ⟨rfl, hw⟩; obtain rfl := hw.symm)
                  (try simp only [Exit.inBlock, Exit.then]); refine bodyPost_ret (results_tmp4 rfl _ _ _) rfl ?_
                  refine ⟨?_, by first | rfl | trivial⟩
                  rw [He.out, He2.out, He3.out]
                  rfl
                · have hy := hexV_lt hv3
                  have He3 : Hid (hexL (s.data.toList.drop (i + 2)) = .ok (UInt8.ofNat (16 * x + y)) 4) := by show _ = _; rw [hd2, hd3]; simp [hexL, hv, hv3]
                  rw [show hexI (s[i + 3]'hi3) = (y : Int) by unfold hexI; rw [hv3]] at HX3
                  have dy : decide ((y : Int) < 0) = false := by simp
                  clear hd2 hd3 hv hv3
                  go_enter Tryd.func73, Tryd.ntmps73
                  go_wp2_with fail
                  refine wp_loop_rounds 3 ?_
                  rw [rounds_succ]
                  go_wp2_with (go_at_call 82; refine (HX2.out _).mono ?_; rintro e w' ⟨rfl, hw⟩; obtain rfl := hw.symm)
                  rw [rounds_succ]
                  go_wp2_with (go_at_call 82; refine (HX3.out _).mono ?_; rintro e w' ⟨rfl, hw⟩; obtain rfl := hw.symm)
                  rw [rounds_succ]
                  go_wp2
                  (try simp only [Exit.inBlock, Exit.then]); refine bodyPost_ret (results_tmp4 rfl _ _ _) rfl ?_
                  refine ⟨?_, by first | rfl | trivial⟩
                  rw [He.out, He2.out, He3.out]
                  have hz : (UInt8.ofNat (16 * x + y)).toNat = 16 * x + y := by rw [UInt8.toNat_ofNat']; omega
                  have hz2 : (((UInt8.ofNat (16 * x + y)).toNat : Nat) : Int) = 16 * (x : Int) + (y : Int) := by rw [hz]; omega
                  show Ending.returned (.tuple #[.int .u8 (16 * (x : Int) + (y : Int)), .int .i64 4, .int .i64 0, .int .i64 0]) = Ending.returned (.tuple #[.int .u8 (((UInt8.ofNat (16 * x + y)).toNat : Nat) : Int), .int .i64 4, .int .i64 0, .int .i64 0])
                  rw [hz2]
              · have d3 : decide ((s.size : Int) ≤ (i : Int) + 3) = true := by simp; omega
                have He3 : Hid (hexL (s.data.toList.drop (i + 2)) = .opn) := by show _ = _; rw [hd2, List.drop_eq_nil_of_le (by simp; omega)]; simp [hexL, hv]
                clear hd2 hv
                go_enter Tryd.func73, Tryd.ntmps73
                go_wp2_with fail
                refine wp_loop_rounds 3 ?_
                rw [rounds_succ]
                go_wp2_with (go_at_call 82; refine (HX2.out _).mono ?_; rintro e w' ⟨rfl, hw⟩; obtain rfl := hw.symm)
                rw [rounds_succ]
                go_wp2
                (try simp only [Exit.inBlock, Exit.then]); refine bodyPost_ret (results_tmp4 rfl _ _ _) rfl ?_
                refine ⟨?_, by first | rfl | trivial⟩
                rw [He.out, He2.out, He3.out]
                rfl
          · have d2 : decide ((s.size : Int) ≤ (i : Int) + 2) = true := by simp; omega
            have He3 : Hid (hexL (s.data.toList.drop (i + 2)) = .opn) := by show _ = _; rw [List.drop_eq_nil_of_le (by simp; omega)]; rfl
            go_enter Tryd.func73, Tryd.ntmps73
            go_wp2_with fail
            refine wp_loop_rounds 3 ?_
            rw [rounds_succ]
            go_wp2
            (try simp only [Exit.inBlock, Exit.then]); refine bodyPost_ret (results_tmp4 rfl _ _ _) rfl ?_
            refine ⟨?_, by first | rfl | trivial⟩
            rw [He.out, He2.out, He3.out]
            rfl
        · have He2 : Hid (escC (s.data.toList.drop (i + 1)) = .bad 51) := by
            show _ = _
            rw [hd1]
            have k1 : s[i + 1]'hi1 ≠ 34 := u8_ne (k := 34) hm (by decide) m34
            have k2 : s[i + 1]'hi1 ≠ 92 := u8_ne (k := 92) hm (by decide) m92
            have k3 : s[i + 1]'hi1 ≠ 110 := u8_ne (k := 110) hm (by decide) m110
            have k4 : s[i + 1]'hi1 ≠ 116 := u8_ne (k := 116) hm (by decide) m116
            have k5 : s[i + 1]'hi1 ≠ 120 := u8_ne (k := 120) hm (by decide) m120
            rw [escC, if_neg (by intro h; rcases h with h | h; exact k1 h; exact k2 h), if_neg k3, if_neg k4, if_neg k5]
          have b120 : ((m : Int) == 120) = false := by simp; omega
          clear hd1 hm m92 m34 m110 m116 m120
          go_enter Tryd.func73, Tryd.ntmps73
          go_wp2
          (try simp only [Exit.inBlock, Exit.then]); refine bodyPost_ret (results_tmp4 rfl _ _ _) rfl ?_
          refine ⟨?_, by first | rfl | trivial⟩
          rw [He.out, He2.out]
          rfl
      · have d1 : decide ((s.size : Int) ≤ (i : Int) + 1) = true := by simp; omega
        have He2 : Hid (escC (s.data.toList.drop (i + 1)) = .opn) := by
          show _ = _
          rw [List.drop_eq_nil_of_le (by simp; omega)]
          rfl
        go_enter Tryd.func73, Tryd.ntmps73
        go_wp2
        (try simp only [Exit.inBlock, Exit.then]); refine bodyPost_ret (results_tmp4 rfl _ _ _) rfl ?_
        refine ⟨?_, by first | rfl | trivial⟩
        rw [He.out, He2.out]
        rfl
    · have b92 : ((n : Int) == 92) = false := by simp; omega
      have b92' : ((n : Int) != 92) = true := by simp only [bne, b92]; rfl
      have He : Hid (charL (s.data.toList.drop i) = .ok s[i] 1) := by
        show _ = _
        rw [hd, charL, if_neg (by rw [← hn]; exact hr), if_neg (show ¬ s[i] = 92 from u8_ne (k := 92) hn (by decide) q)]
      clear hd hn hr
      go_enter Tryd.func73, Tryd.ntmps73
      go_wp2
      (try simp only [Exit.inBlock, Exit.then]); refine bodyPost_ret (results_tmp4 rfl _ _ _) rfl ?_
      refine ⟨?_, by first | rfl | trivial⟩
      rw [He.out]
      simp [chR, F0]
end Go.Proofs.YtdafnkfnaknoiaaDoor
