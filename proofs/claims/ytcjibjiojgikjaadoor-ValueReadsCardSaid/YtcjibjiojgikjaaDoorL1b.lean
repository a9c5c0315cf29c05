/- Contracts of value.Valid and value.Compare. -/
import Derived.Test.YtcjibjiojgikjaaDoorL1a
import Derived.WalkKit
import Derived.WalkSpells
import Derived.WalkLawsBesides
import Derived.Lib.Hide
import Derived.BigQuiet
import Derived.Deep.QuietTactic
import Derived.Deep.RegionWith
import Derived.Deep.RegionHeld3
import Derived.Deep.DrawnRows
namespace Go.Proofs.YtcjibjiojgikjaaDoor
open Go Go.RowKit
set_option maxHeartbeats 400000
theorem run_eql_V_f (w : World) (k n : Int) (s : ByteArray) (b : Bool) (k' n' : Int) (s' : ByteArray) (b' : Bool) (h : veq k n s b k' n' s' b' = false) :
    (binOp .eql 29 (.agg #[.int .i64 k, .int .i64 n, .string s, .bool b]) (.agg #[.int .i64 k', .int .i64 n', .string s', .bool b'])).run Tryd.prog w = .ok (.bool false) w := by
  rw [run_eql_V, h]
theorem run_eql_V_t (w : World) (k n : Int) (s : ByteArray) (b : Bool) (k' n' : Int) (s' : ByteArray) (b' : Bool) (h : veq k n s b k' n' s' b' = true) :
    (binOp .eql 29 (.agg #[.int .i64 k, .int .i64 n, .string s, .bool b]) (.agg #[.int .i64 k', .int .i64 n', .string s', .bool b'])).run Tryd.prog w = .ok (.bool true) w := by
  rw [run_eql_V, h]
attribute [local go_sem ↓] run_eql_V_f run_eql_V_t

theorem below_drewN {B : Nat} {a w : World} (h : Below B a w) (n : Nat) : Below B a (w.drewN n) := ⟨h.os, h.tape, h.output, h.size, h.block⟩
theorem valid_2 (n : Int) (s : ByteArray) (b : Bool) (w : World) : Calls Tryd.prog 13 #[.agg #[.int .i64 2, .int .i64 n, .string s, .bool b]] w fun e w' => e = .returned (.bool (valid 2 n s b)) ∧ Below w.heap.size w w' := by
      have He : Hid (valid 2 n s b = (veq 2 n s b 2 0 s false && decide ((s.size : Int) ≤ 256))) := by show _ = _; simp [valid]
      cases hv : veq 2 n s b 2 0 s false
      · go_enter Tryd.func13, Tryd.ntmps13
        go_wp2
        first | (go_region_with (first | (go_at_call 31; refine (text_any _ _).mono ?_; rintro e w' ⟨rfl, rfl⟩))) | fail
        all_goals (go_wp2; go_ret)
        all_goals exact ⟨by rw [He.out, hv]; rfl, by repeat (first | exact Below.refl _ _ | apply Below.drew | apply below_drewN | refine Below.alloc ?_ (by simp <;> omega) _)⟩
      · go_enter Tryd.func13, Tryd.ntmps13
        go_wp2
        go_region_held3 (fun W => W.cell? ⟨w.heap.size, 0, none⟩ = some (.int .i64 2) ∧ W.cell? ⟨w.heap.size, 1, none⟩ = some (.int .i64 n) ∧ W.cell? ⟨w.heap.size, 2, none⟩ = some (.string s) ∧ W.cell? ⟨w.heap.size, 3, none⟩ = some (.bool b)) (go_keep)
          (first | (go_at_call 31; refine (text_any _ _).mono ?_; rintro e w' ⟨rfl, rfl⟩))
        all_goals (go_wp2; go_ret)
        all_goals exact ⟨by rw [He.out, hv]; rfl, by repeat (first | exact Below.refl _ _ | apply Below.drew | apply below_drewN | refine Below.alloc ?_ (by simp <;> omega) _)⟩

theorem valid_1 (n : Int) (s : ByteArray) (b : Bool) (w : World) : Calls Tryd.prog 13 #[.agg #[.int .i64 1, .int .i64 n, .string s, .bool b]] w fun e w' => e = .returned (.bool (valid 1 n s b)) ∧ Below w.heap.size w w' := by
  have He : Hid (valid 1 n s b = veq 1 n s b 1 n ⟨#[]⟩ false) := by show _ = _; simp [valid]
  cases hv : veq 1 n s b 1 n ⟨#[]⟩ false
  all_goals
    go_enter Tryd.func13, Tryd.ntmps13
    go_wp2
    first | (go_region_with (first | (go_at_call 30; refine (number_any _ _).mono ?_; rintro e w' ⟨rfl, rfl⟩))) | fail
    all_goals (go_wp2; go_ret)
    all_goals exact ⟨by rw [He.out, hv]; rfl, by repeat (first | exact Below.refl _ _ | apply Below.drew | apply below_drewN | refine Below.alloc ?_ (by simp <;> omega) _)⟩
theorem valid_3 (n : Int) (s : ByteArray) (b : Bool) (w : World) : Calls Tryd.prog 13 #[.agg #[.int .i64 3, .int .i64 n, .string s, .bool b]] w fun e w' => e = .returned (.bool (valid 3 n s b)) ∧ Below w.heap.size w w' := by
  have He : Hid (valid 3 n s b = veq 3 n s b 3 0 ⟨#[]⟩ b) := by show _ = _; simp [valid]
  cases hv : veq 3 n s b 3 0 ⟨#[]⟩ b
  all_goals
    go_enter Tryd.func13, Tryd.ntmps13
    go_wp2
    first | (go_region_with (first | (go_at_call 32; refine (truth_any _ _).mono ?_; rintro e w' ⟨rfl, rfl⟩))) | fail
    all_goals (go_wp2; go_ret)
    all_goals exact ⟨by rw [He.out, hv]; rfl, by repeat (first | exact Below.refl _ _ | apply Below.drew | apply below_drewN | refine Below.alloc ?_ (by simp <;> omega) _)⟩
theorem valid_any (k n : Int) (s : ByteArray) (b : Bool) (w : World) : Calls Tryd.prog 13 #[.agg #[.int .i64 k, .int .i64 n, .string s, .bool b]] w fun e w' => e = .returned (.bool (valid k n s b)) ∧ Below w.heap.size w w' := by
  by_cases h1 : k = 1
  · subst h1
    exact valid_1 n s b w
  · by_cases h2 : k = 2
    · subst h2
      exact valid_2 n s b w
    · have b1 : (k == 1) = false := by simpa using h1
      have b2 : (k == 2) = false := by simpa using h2
      by_cases h3 : k = 3
      · subst h3
        exact valid_3 n s b w
      · have b3 : (k == 3) = false := by simpa using h3
        have He : Hid (valid k n s b = false) := by show _ = _; simp [valid, h1, h2, h3]
        clear h1 h2 h3
        go_enter Tryd.func13, Tryd.ntmps13
        go_wp2
        go_ret
        exact ⟨by rw [He.out]; rfl, by repeat (first | exact Below.refl _ _ | apply Below.drew | refine Below.alloc ?_ (by simp <;> omega) _)⟩

def cmpV (k n : Int) (s : ByteArray) (b : Bool) (k' n' : Int) (s' : ByteArray) (b' : Bool) : Int :=
  if cmpI k k' = 0 then if cmpI n n' = 0 then if cmpS s s' = 0 then cmpI (rankB b) (rankB b') else cmpS s s' else cmpI n n' else cmpI k k'
theorem compare_any (k n : Int) (s : ByteArray) (b : Bool) (k' n' : Int) (s' : ByteArray) (b' : Bool) (w : World) :
    Calls Tryd.prog 15 #[.agg #[.int .i64 k, .int .i64 n, .string s, .bool b], .agg #[.int .i64 k', .int .i64 n', .string s', .bool b']] w fun e w' => e = .returned (.int .i64 (cmpV k n s b k' n' s' b')) ∧ Below w.heap.size w w' := by
  by_cases h1 : cmpI k k' = 0
  · by_cases h2 : cmpI n n' = 0
    · by_cases h3 : cmpS s s' = 0
      · have He : Hid (cmpV k n s b k' n' s' b' = cmpI (rankB b) (rankB b')) := by show _ = _; unfold cmpV; rw [if_pos h1, if_pos h2, if_pos h3]
        have b1 : (cmpI k k' != 0) = false := by simpa using h1
        have b2 : (cmpI n n' != 0) = false := by simpa using h2
        have b3 : (cmpS s s' != 0) = false := by simpa using h3
        clear h1 h2 h3
        go_enter Tryd.func15, Tryd.ntmps15
        go_wp2_with (first | (go_at_call 34; refine (cmpInt_any _ _ _).mono ?_; rintro e w' ⟨rfl, rfl⟩) | (go_at_call 35; refine (cmpInt64_any _ _ _).mono ?_; rintro e w' ⟨rfl, rfl⟩) | (go_at_call 36; refine (cmpStr_any _ _ _).mono ?_; rintro e w' ⟨rfl, rfl⟩))
        go_quiet ((first | (go_at_call 37; exact Calls.quiet_of_same (rank_any _ _)) | (go_at_call 34; exact Calls.quiet_of_same (cmpInt_any _ _ _))))
        go_wp2
        go_ret
        exact ⟨by rw [He.out]; rfl, by repeat (first | exact Below.refl _ _ | apply Below.drew | apply below_drewN | refine Below.alloc ?_ (by simp <;> omega) _)⟩
      · have He : Hid (cmpV k n s b k' n' s' b' = cmpS s s') := by show _ = _; unfold cmpV; rw [if_pos h1, if_pos h2, if_neg h3]
        have b1 : (cmpI k k' != 0) = false := by simpa using h1
        have b2 : (cmpI n n' != 0) = false := by simpa using h2
        have b3 : (cmpS s s' != 0) = true := by simpa using h3
        clear h1 h2 h3
        go_enter Tryd.func15, Tryd.ntmps15
        go_wp2_with (first | (go_at_call 34; refine (cmpInt_any _ _ _).mono ?_; rintro e w' ⟨rfl, rfl⟩) | (go_at_call 35; refine (cmpInt64_any _ _ _).mono ?_; rintro e w' ⟨rfl, rfl⟩) | (go_at_call 36; refine (cmpStr_any _ _ _).mono ?_; rintro e w' ⟨rfl, rfl⟩))
        go_ret
        exact ⟨by rw [He.out]; rfl, by repeat (first | exact Below.refl _ _ | apply Below.drew | apply below_drewN | refine Below.alloc ?_ (by simp <;> omega) _)⟩
    · have He : Hid (cmpV k n s b k' n' s' b' = cmpI n n') := by show _ = _; unfold cmpV; rw [if_pos h1, if_neg h2]
      have b1 : (cmpI k k' != 0) = false := by simpa using h1
      have b2 : (cmpI n n' != 0) = true := by simpa using h2
      clear h1 h2
      go_enter Tryd.func15, Tryd.ntmps15
      go_wp2_with (first | (go_at_call 34; refine (cmpInt_any _ _ _).mono ?_; rintro e w' ⟨rfl, rfl⟩) | (go_at_call 35; refine (cmpInt64_any _ _ _).mono ?_; rintro e w' ⟨rfl, rfl⟩) | (go_at_call 36; refine (cmpStr_any _ _ _).mono ?_; rintro e w' ⟨rfl, rfl⟩))
      go_ret
      exact ⟨by rw [He.out]; rfl, by repeat (first | exact Below.refl _ _ | apply Below.drew | apply below_drewN | refine Below.alloc ?_ (by simp <;> omega) _)⟩
  · have He : Hid (cmpV k n s b k' n' s' b' = cmpI k k') := by show _ = _; unfold cmpV; rw [if_neg h1]
    have b1 : (cmpI k k' != 0) = true := by simpa using h1
    clear h1
    go_enter Tryd.func15, Tryd.ntmps15
    go_wp2_with (first | (go_at_call 34; refine (cmpInt_any _ _ _).mono ?_; rintro e w' ⟨rfl, rfl⟩) | (go_at_call 35; refine (cmpInt64_any _ _ _).mono ?_; rintro e w' ⟨rfl, rfl⟩) | (go_at_call 36; refine (cmpStr_any _ _ _).mono ?_; rintro e w' ⟨rfl, rfl⟩))
    go_ret
    exact ⟨by rw [He.out]; rfl, by repeat (first | exact Below.refl _ _ | apply Below.drew | apply below_drewN | refine Below.alloc ?_ (by simp <;> omega) _)⟩
end Go.Proofs.YtcjibjiojgikjaaDoor
