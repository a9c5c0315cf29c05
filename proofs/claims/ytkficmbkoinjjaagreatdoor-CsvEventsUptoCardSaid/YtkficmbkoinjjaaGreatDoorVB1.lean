/- Contract of value.Valid. -/
import Derived.WalkKit
import Derived.WalkSpells
import Derived.WalkLawsBesides
import Derived.Lib.Hide
import Derived.LoopN
import Derived.LoopTactic
import Derived.BigQuiet
import Derived.Deep.QuietTactic
import Derived.Deep.RegionWith
import Derived.Deep.RegionHeld3
import Derived.Deep.DrawnRows
import Derived.Test.YtkficmbkoinjjaaGreatDoorRows
namespace Go.Proofs.YtkficmbkoinjjaaGreatDoor.V
open Go Go.RowKit
set_option maxHeartbeats 400000
set_option linter.unusedVariables false
set_option linter.unusedSimpArgs false
theorem bcell {B : Nat} {W w1 : World} (hb : Below B W w1) : (∀ b o, b < B → w1.cell? ⟨b, o, none⟩ = W.cell? ⟨b, o, none⟩) ∧ (∀ b o, b < B → w1.frozen? ⟨b, o, none⟩ = W.frozen? ⟨b, o, none⟩) :=
  ⟨fun b o h => hb.cell (p := ⟨b, o, none⟩) h, fun b o h => hb.frozen (p := ⟨b, o, none⟩) h⟩
def veq (k n : Int) (s : ByteArray) (b : Bool) (k' n' : Int) (s' : ByteArray) (b' : Bool) : Bool := k == k' && (n == n' && (s.toList == s'.toList && b == b'))
theorem run_eqlIn_V (w : World) (k n : Int) (s : ByteArray) (b : Bool) (k' n' : Int) (s' : ByteArray) (b' : Bool) :
    (Op.equalIn 10000 57 (.agg #[.int .i64 k, .int .i64 n, .string s, .bool b]) (.agg #[.int .i64 k', .int .i64 n', .string s', .bool b'])).run Tryz.prog w = .ok (veq k n s b k' n' s' b') w := by
  have hf : (Tryz.prog.fieldsOf 57).toList = [{ name := "Kind", type := 3, offset := 0, embedded := false, tag := "", pkgPath := "", byteOffset := 0 },
        { name := "Int", type := 2, offset := 1, embedded := false, tag := "", pkgPath := "", byteOffset := 8 },
        { name := "Str", type := 9, offset := 2, embedded := false, tag := "", pkgPath := "", byteOffset := 16 },
        { name := "Bool", type := 4, offset := 3, embedded := false, tag := "", pkgPath := "", byteOffset := 32 }] := by kernel_rfl
  rw [show (10000 : Nat) = 9998 + 1 + 1 from rfl, run_equalIn_agg w _ 57 _ _ (by kernel_rfl) (by kernel_rfl), hf]
  unfold veq
  cases h1 : k == k' <;> cases h2 : n == n' <;> cases h3 : s.toList == s'.toList <;> cases h4 : b == b' <;> simp [Op.eqFields, go_sem, h1, h2, h3, h4]
theorem run_eql_V (w : World) (k n : Int) (s : ByteArray) (b : Bool) (k' n' : Int) (s' : ByteArray) (b' : Bool) :
    (binOp .eql 57 (.agg #[.int .i64 k, .int .i64 n, .string s, .bool b]) (.agg #[.int .i64 k', .int .i64 n', .string s', .bool b'])).run Tryz.prog w = .ok (.bool (veq k n s b k' n' s' b')) w := by
  rw [run_eql_struct, run_eqlIn_V]; rfl
theorem run_neq_V (w : World) (k n : Int) (s : ByteArray) (b : Bool) (k' n' : Int) (s' : ByteArray) (b' : Bool) :
    (binOp .neq 57 (.agg #[.int .i64 k, .int .i64 n, .string s, .bool b]) (.agg #[.int .i64 k', .int .i64 n', .string s', .bool b'])).run Tryz.prog w = .ok (.bool (!veq k n s b k' n' s' b')) w := by
  rw [run_neq_struct, run_eqlIn_V]; rfl
attribute [local go_sem ↓] run_eql_V run_neq_V

theorem number_any (n : Int) (w : World) : Calls Tryz.prog 70 #[.int .i64 n] w fun e w' => e = .returned (.agg #[.int .i64 1, .int .i64 n, .string ⟨#[]⟩, .bool false]) ∧ w' = w.alloc (.cells #[.int .i64 1, .int .i64 n, .string ⟨#[]⟩, .bool false] 57) := by
  go_enter Tryz.func70, Tryz.ntmps70
  go_wp2
  exact bodyPost_ret (v := .agg #[.int .i64 1, .int .i64 n, .string ⟨#[]⟩, .bool false]) (by simp [results, Tryz.results70, go_sem]) rfl ⟨rfl, rfl⟩
theorem text_any (s : ByteArray) (w : World) : Calls Tryz.prog 71 #[.string s] w fun e w' => e = .returned (.agg #[.int .i64 2, .int .i64 0, .string s, .bool false]) ∧ w' = w.alloc (.cells #[.int .i64 2, .int .i64 0, .string s, .bool false] 57) := by
  go_enter Tryz.func71, Tryz.ntmps71
  go_wp2
  exact bodyPost_ret (v := .agg #[.int .i64 2, .int .i64 0, .string s, .bool false]) (by simp [results, Tryz.results71, go_sem]) rfl ⟨rfl, rfl⟩
theorem truth_any (b : Bool) (w : World) : Calls Tryz.prog 72 #[.bool b] w fun e w' => e = .returned (.agg #[.int .i64 3, .int .i64 0, .string ⟨#[]⟩, .bool b]) ∧ w' = w.alloc (.cells #[.int .i64 3, .int .i64 0, .string ⟨#[]⟩, .bool b] 57) := by
  go_enter Tryz.func72, Tryz.ntmps72
  go_wp2
  exact bodyPost_ret (v := .agg #[.int .i64 3, .int .i64 0, .string ⟨#[]⟩, .bool b]) (by simp [results, Tryz.results72, go_sem]) rfl ⟨rfl, rfl⟩
def valid (k n : Int) (s : ByteArray) (b : Bool) : Bool :=
  if k = 1 then veq k n s b 1 n ⟨#[]⟩ false else if k = 2 then veq k n s b 2 0 s false && decide ((s.size : Int) ≤ 256) else if k = 3 then veq k n s b 3 0 ⟨#[]⟩ b else false
theorem run_eql_V_f (w : World) (k n : Int) (s : ByteArray) (b : Bool) (k' n' : Int) (s' : ByteArray) (b' : Bool) (h : veq k n s b k' n' s' b' = false) :
    (binOp .eql 57 (.agg #[.int .i64 k, .int .i64 n, .string s, .bool b]) (.agg #[.int .i64 k', .int .i64 n', .string s', .bool b'])).run Tryz.prog w = .ok (.bool false) w := by
  rw [run_eql_V, h]
theorem run_eql_V_t (w : World) (k n : Int) (s : ByteArray) (b : Bool) (k' n' : Int) (s' : ByteArray) (b' : Bool) (h : veq k n s b k' n' s' b' = true) :
    (binOp .eql 57 (.agg #[.int .i64 k, .int .i64 n, .string s, .bool b]) (.agg #[.int .i64 k', .int .i64 n', .string s', .bool b'])).run Tryz.prog w = .ok (.bool true) w := by
  rw [run_eql_V, h]
attribute [local go_sem ↓] run_eql_V_f run_eql_V_t

theorem below_drewN {B : Nat} {a w : World} (h : Below B a w) (n : Nat) : Below B a (w.drewN n) := ⟨h.os, h.tape, h.output, h.size, h.block⟩
theorem valid_2 (n : Int) (s : ByteArray) (b : Bool) (w : World) : Calls Tryz.prog 52 #[.agg #[.int .i64 2, .int .i64 n, .string s, .bool b]] w fun e w' => e = .returned (.bool (valid 2 n s b)) ∧ Below w.heap.size w w' := by
      have He : Hid (valid 2 n s b = (veq 2 n s b 2 0 s false && decide ((s.size : Int) ≤ 256))) := by show _ = _; simp [valid]
      cases hv : veq 2 n s b 2 0 s false
      · go_enter Tryz.func52, Tryz.ntmps52
        go_wp2
        first | (go_region_with (first | (go_at_call 71; refine (text_any _ _).mono ?_; rintro e w' ⟨rfl, rfl⟩))) | fail
        all_goals (go_wp2; go_ret)
        all_goals exact ⟨by rw [He.out, hv]; rfl, by repeat (first | exact Below.refl _ _ | apply Below.drew | apply below_drewN | refine Below.alloc ?_ (by simp <;> omega) _)⟩
      · go_enter Tryz.func52, Tryz.ntmps52
        go_wp2
        go_region_held3 (fun W => W.cell? ⟨w.heap.size, 0, none⟩ = some (.int .i64 2) ∧ W.cell? ⟨w.heap.size, 1, none⟩ = some (.int .i64 n) ∧ W.cell? ⟨w.heap.size, 2, none⟩ = some (.string s) ∧ W.cell? ⟨w.heap.size, 3, none⟩ = some (.bool b)) (go_keep)
          (first | (go_at_call 71; refine (text_any _ _).mono ?_; rintro e w' ⟨rfl, rfl⟩))
        all_goals (go_wp2; go_ret)
        all_goals exact ⟨by rw [He.out, hv]; rfl, by repeat (first | exact Below.refl _ _ | apply Below.drew | apply below_drewN | refine Below.alloc ?_ (by simp <;> omega) _)⟩

theorem valid_1 (n : Int) (s : ByteArray) (b : Bool) (w : World) : Calls Tryz.prog 52 #[.agg #[.int .i64 1, .int .i64 n, .string s, .bool b]] w fun e w' => e = .returned (.bool (valid 1 n s b)) ∧ Below w.heap.size w w' := by
  have He : Hid (valid 1 n s b = veq 1 n s b 1 n ⟨#[]⟩ false) := by show _ = _; simp [valid]
  cases hv : veq 1 n s b 1 n ⟨#[]⟩ false
  all_goals
    go_enter Tryz.func52, Tryz.ntmps52
    go_wp2
    first | (go_region_with (first | (go_at_call 70; refine (number_any _ _).mono ?_; rintro e w' ⟨rfl, rfl⟩))) | fail
    all_goals (go_wp2; go_ret)
    all_goals exact ⟨by rw [He.out, hv]; rfl, by repeat (first | exact Below.refl _ _ | apply Below.drew | apply below_drewN | refine Below.alloc ?_ (by simp <;> omega) _)⟩
theorem valid_3 (n : Int) (s : ByteArray) (b : Bool) (w : World) : Calls Tryz.prog 52 #[.agg #[.int .i64 3, .int .i64 n, .string s, .bool b]] w fun e w' => e = .returned (.bool (valid 3 n s b)) ∧ Below w.heap.size w w' := by
  have He : Hid (valid 3 n s b = veq 3 n s b 3 0 ⟨#[]⟩ b) := by show _ = _; simp [valid]
  cases hv : veq 3 n s b 3 0 ⟨#[]⟩ b
  all_goals
    go_enter Tryz.func52, Tryz.ntmps52
    go_wp2
    first | (go_region_with (first | (go_at_call 72; refine (truth_any _ _).mono ?_; rintro e w' ⟨rfl, rfl⟩))) | fail
    all_goals (go_wp2; go_ret)
    all_goals exact ⟨by rw [He.out, hv]; rfl, by repeat (first | exact Below.refl _ _ | apply Below.drew | apply below_drewN | refine Below.alloc ?_ (by simp <;> omega) _)⟩
theorem valid_any (k n : Int) (s : ByteArray) (b : Bool) (w : World) : Calls Tryz.prog 52 #[.agg #[.int .i64 k, .int .i64 n, .string s, .bool b]] w fun e w' => e = .returned (.bool (valid k n s b)) ∧ Below w.heap.size w w' := by
  by_cases h1 : k = 1
  · subst h1
    exact valid_1 n s b w
  · by_cases h2 : k = 2
    · subst h2
      exact valid_2 n s b w
    · have b1 : (k == 1) = false := by simpa using h1
      have b2 : (k == 2) = false := by simpa using h2
      by_cases h3 : k = 3
      · subst h3
        exact valid_3 n s b w
      · have b3 : (k == 3) = false := by simpa using h3
        have He : Hid (valid k n s b = false) := by show _ = _; simp [valid, h1, h2, h3]
        clear h1 h2 h3
        go_enter Tryz.func52, Tryz.ntmps52
        go_wp2
        go_ret
        exact ⟨by rw [He.out]; rfl, by repeat (first | exact Below.refl _ _ | apply Below.drew | refine Below.alloc ?_ (by simp <;> omega) _)⟩

end Go.Proofs.YtkficmbkoinjjaaGreatDoor.V
