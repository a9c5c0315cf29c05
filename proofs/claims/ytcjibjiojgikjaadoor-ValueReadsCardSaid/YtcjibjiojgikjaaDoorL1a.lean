/- Contracts of the leaves of package value: the makers of values, the comparisons, what operations do. -/
import Derived.Test.YtcjibjiojgikjaaDoorRows
import Derived.WalkKit
import Derived.WalkSpells
import Derived.WalkLawsBesides
import Derived.Lib.Hide
import Derived.BigQuiet
import Derived.Deep.QuietTactic
import Derived.Deep.RegionWith
import Derived.Deep.DrawnRows
namespace Go.Proofs.YtcjibjiojgikjaaDoor
open Go Go.RowKit
set_option maxHeartbeats 400000

def veq (k n : Int) (s : ByteArray) (b : Bool) (k' n' : Int) (s' : ByteArray) (b' : Bool) : Bool := k == k' && (n == n' && (s.toList == s'.toList && b == b'))
theorem run_eqlIn_V (w : World) (k n : Int) (s : ByteArray) (b : Bool) (k' n' : Int) (s' : ByteArray) (b' : Bool) :
    (Op.equalIn 10000 29 (.agg #[.int .i64 k, .int .i64 n, .string s, .bool b]) (.agg #[.int .i64 k', .int .i64 n', .string s', .bool b'])).run Tryd.prog w = .ok (veq k n s b k' n' s' b') w := by
  have hf : (Tryd.prog.fieldsOf 29).toList = [{ name := "Kind", type := 3, offset := 0, embedded := false, tag := "", pkgPath := "", byteOffset := 0 },
        { name := "Int", type := 2, offset := 1, embedded := false, tag := "", pkgPath := "", byteOffset := 8 },
        { name := "Str", type := 9, offset := 2, embedded := false, tag := "", pkgPath := "", byteOffset := 16 },
        { name := "Bool", type := 4, offset := 3, embedded := false, tag := "", pkgPath := "", byteOffset := 32 }] := by kernel_rfl
  rw [show (10000 : Nat) = 9998 + 1 + 1 from rfl, run_equalIn_agg w _ 29 _ _ (by kernel_rfl) (by kernel_rfl), hf]
  unfold veq
  cases h1 : k == k' <;> cases h2 : n == n' <;> cases h3 : s.toList == s'.toList <;> cases h4 : b == b' <;> simp [Op.eqFields, go_sem, h1, h2, h3, h4]
theorem run_eql_V (w : World) (k n : Int) (s : ByteArray) (b : Bool) (k' n' : Int) (s' : ByteArray) (b' : Bool) :
    (binOp .eql 29 (.agg #[.int .i64 k, .int .i64 n, .string s, .bool b]) (.agg #[.int .i64 k', .int .i64 n', .string s', .bool b'])).run Tryd.prog w = .ok (.bool (veq k n s b k' n' s' b')) w := by
  rw [run_eql_struct, run_eqlIn_V]; rfl
theorem run_neq_V (w : World) (k n : Int) (s : ByteArray) (b : Bool) (k' n' : Int) (s' : ByteArray) (b' : Bool) :
    (binOp .neq 29 (.agg #[.int .i64 k, .int .i64 n, .string s, .bool b]) (.agg #[.int .i64 k', .int .i64 n', .string s', .bool b'])).run Tryd.prog w = .ok (.bool (!veq k n s b k' n' s' b')) w := by
  rw [run_neq_struct, run_eqlIn_V]; rfl
attribute [local go_sem ↓] run_eql_V run_neq_V

theorem number_any (n : Int) (w : World) : Calls Tryd.prog 30 #[.int .i64 n] w fun e w' => e = .returned (.agg #[.int .i64 1, .int .i64 n, .string ⟨#[]⟩, .bool false]) ∧ w' = w.alloc (.cells #[.int .i64 1, .int .i64 n, .string ⟨#[]⟩, .bool false] 29) := by
  go_enter Tryd.func30, Tryd.ntmps30
  go_wp2
  exact bodyPost_ret (v := .agg #[.int .i64 1, .int .i64 n, .string ⟨#[]⟩, .bool false]) (by simp [results, Tryd.results30, go_sem]) rfl ⟨rfl, rfl⟩
theorem text_any (s : ByteArray) (w : World) : Calls Tryd.prog 31 #[.string s] w fun e w' => e = .returned (.agg #[.int .i64 2, .int .i64 0, .string s, .bool false]) ∧ w' = w.alloc (.cells #[.int .i64 2, .int .i64 0, .string s, .bool false] 29) := by
  go_enter Tryd.func31, Tryd.ntmps31
  go_wp2
  exact bodyPost_ret (v := .agg #[.int .i64 2, .int .i64 0, .string s, .bool false]) (by simp [results, Tryd.results31, go_sem]) rfl ⟨rfl, rfl⟩
theorem truth_any (b : Bool) (w : World) : Calls Tryd.prog 32 #[.bool b] w fun e w' => e = .returned (.agg #[.int .i64 3, .int .i64 0, .string ⟨#[]⟩, .bool b]) ∧ w' = w.alloc (.cells #[.int .i64 3, .int .i64 0, .string ⟨#[]⟩, .bool b] 29) := by
  go_enter Tryd.func32, Tryd.ntmps32
  go_wp2
  exact bodyPost_ret (v := .agg #[.int .i64 3, .int .i64 0, .string ⟨#[]⟩, .bool b]) (by simp [results, Tryd.results32, go_sem]) rfl ⟨rfl, rfl⟩
def rankB (b : Bool) : Int := if b then 1 else 0
theorem rank_any (b : Bool) (w : World) : Calls Tryd.prog 37 #[.bool b] w fun e w' => e = .returned (.int .i64 (rankB b)) ∧ w' = w := by
  cases b
  all_goals
    go_enter Tryd.func37, Tryd.ntmps37
    go_wp2
    go_ret
    exact ⟨rfl, rfl⟩
def cmpI (a b : Int) : Int := if a < b then -1 else if b < a then 1 else 0
theorem cmpInt_any (a b : Int) (w : World) : Calls Tryd.prog 34 #[.int .i64 a, .int .i64 b] w fun e w' => e = .returned (.int .i64 (cmpI a b)) ∧ w' = w := by
  have h53 : ∀ (x : Int) (w : World), Calls Tryd.prog 53 #[.int .i64 x] w fun e w' => e = .returned (.bool false) ∧ w' = w := by
    intro x w
    go_enter Tryd.func53, Tryd.ntmps53
    go_wp2
    go_ret
    exact ⟨by simp, rfl⟩
  have H := Lib.hid h53
  clear h53
  rcases Int.lt_trichotomy a b with h | h | h
  · have e : cmpI a b = -1 := by unfold cmpI; rw [if_pos h]
    have He := Lib.hid e
    clear e
    go_enter Tryd.func34, Tryd.ntmps34
    go_wp2_with (go_at_call 53; refine (H.out _ _).mono ?_; rintro e w' ⟨rfl, rfl⟩)
    go_ret
    exact ⟨by rw [He.out]; rfl, rfl⟩
  · subst h
    have e : cmpI a a = 0 := by unfold cmpI; simp
    have He := Lib.hid e
    clear e
    go_enter Tryd.func34, Tryd.ntmps34
    go_wp2_with (go_at_call 53; refine (H.out _ _).mono ?_; rintro e w' ⟨rfl, rfl⟩)
    go_ret
    exact ⟨by rw [He.out]; rfl, rfl⟩
  · have e : cmpI a b = 1 := by unfold cmpI; rw [if_neg (by omega), if_pos h]
    have He := Lib.hid e
    clear e
    have h' : ¬ a < b := by omega
    go_enter Tryd.func34, Tryd.ntmps34
    go_wp2_with (go_at_call 53; refine (H.out _ _).mono ?_; rintro e w' ⟨rfl, rfl⟩)
    go_ret
    exact ⟨by rw [He.out]; rfl, rfl⟩
theorem cmpInt64_any (a b : Int) (w : World) : Calls Tryd.prog 35 #[.int .i64 a, .int .i64 b] w fun e w' => e = .returned (.int .i64 (cmpI a b)) ∧ w' = w := by
  have h53 : ∀ (x : Int) (w : World), Calls Tryd.prog 54 #[.int .i64 x] w fun e w' => e = .returned (.bool false) ∧ w' = w := by
    intro x w
    go_enter Tryd.func54, Tryd.ntmps54
    go_wp2
    go_ret
    exact ⟨by simp, rfl⟩
  have H := Lib.hid h53
  clear h53
  rcases Int.lt_trichotomy a b with h | h | h
  · have e : cmpI a b = -1 := by unfold cmpI; rw [if_pos h]
    have He := Lib.hid e
    clear e
    go_enter Tryd.func35, Tryd.ntmps35
    go_wp2_with (go_at_call 54; refine (H.out _ _).mono ?_; rintro e w' ⟨rfl, rfl⟩)
    go_ret
    exact ⟨by rw [He.out]; rfl, rfl⟩
  · subst h
    have e : cmpI a a = 0 := by unfold cmpI; simp
    have He := Lib.hid e
    clear e
    go_enter Tryd.func35, Tryd.ntmps35
    go_wp2_with (go_at_call 54; refine (H.out _ _).mono ?_; rintro e w' ⟨rfl, rfl⟩)
    go_ret
    exact ⟨by rw [He.out]; rfl, rfl⟩
  · have e : cmpI a b = 1 := by unfold cmpI; rw [if_neg (by omega), if_pos h]
    have He := Lib.hid e
    clear e
    have h' : ¬ a < b := by omega
    go_enter Tryd.func35, Tryd.ntmps35
    go_wp2_with (go_at_call 54; refine (H.out _ _).mono ?_; rintro e w' ⟨rfl, rfl⟩)
    go_ret
    exact ⟨by rw [He.out]; rfl, rfl⟩
theorem nanS (x : ByteArray) (w : World) : Calls Tryd.prog 55 #[.string x] w fun e w' => e = .returned (.bool false) ∧ w' = w := by
    go_enter Tryd.func55, Tryd.ntmps55
    go_wp2
    go_ret
    exact ⟨by simp, rfl⟩
def cmpS (a b : ByteArray) : Int := if Op.bytesLess a.toList b.toList = true then -1 else if a.toList == b.toList then 0 else 1
theorem cmpStr_any (a b : ByteArray) (w : World) : Calls Tryd.prog 36 #[.string a, .string b] w fun e w' => e = .returned (.int .i64 (cmpS a b)) ∧ w' = w := by
  cases h : Op.bytesLess a.toList b.toList <;> cases h2 : a.toList == b.toList
  all_goals
    have e : cmpS a b = cmpS a b := rfl
    conv at e => rhs; unfold cmpS; rw [h, h2]
    have He := Lib.hid e
    clear e
    go_enter Tryd.func36, Tryd.ntmps36
    go_wp2_with (go_at_call 55; refine (nanS _ _).mono ?_; rintro e w' ⟨rfl, rfl⟩)
    go_ret
    exact ⟨by rw [He.out]; simp, rfl⟩

def reckonI (op a b : Int) : Int := if op = 1 ∨ op = 4 then wrap64 (a + wrap64 (-b)) else if op = 3 then wrap64 (a + b) else wrap64 (a * b)
theorem reckon_any (op a b : Int) (w : World) : Calls Tryd.prog 56 #[.int .i64 op, .int .i64 a, .int .i64 b] w fun e w' => e = .returned (.int .i64 (reckonI op a b)) ∧ w' = w := by
  by_cases h1 : op = 1
  · have e : reckonI op a b = wrap64 (a + wrap64 (-b)) := by unfold reckonI; rw [if_pos (by omega)]
    have He := Lib.hid e
    clear e
    subst h1
    go_enter Tryd.func56, Tryd.ntmps56
    go_wp2
    go_ret
    exact ⟨by rw [He.out]; rfl, rfl⟩
  · by_cases h4 : op = 4
    · have e : reckonI op a b = wrap64 (a + wrap64 (-b)) := by unfold reckonI; rw [if_pos (by omega)]
      have He := Lib.hid e
      clear e
      subst h4
      go_enter Tryd.func56, Tryd.ntmps56
      go_wp2
      go_ret
      exact ⟨by rw [He.out]; rfl, rfl⟩
    · by_cases h3 : op = 3
      · have e : reckonI op a b = wrap64 (a + b) := by unfold reckonI; rw [if_neg (by omega), if_pos h3]
        have He := Lib.hid e
        clear e
        subst h3
        go_enter Tryd.func56, Tryd.ntmps56
        go_wp2
        go_ret
        exact ⟨by rw [He.out]; rfl, rfl⟩
      · have e : reckonI op a b = wrap64 (a * b) := by unfold reckonI; rw [if_neg (by omega), if_neg h3]
        have He := Lib.hid e
        clear e
        have b1 : (op == 1) = false := by simpa using h1
        have b4 : (op == 4) = false := by simpa using h4
        have b3 : (op == 3) = false := by simpa using h3
        clear h1 h3 h4
        go_enter Tryd.func56, Tryd.ntmps56
        go_wp2
        go_ret
        exact ⟨by rw [He.out]; rfl, rfl⟩
def joinB (op : Int) (a b : Bool) : Bool := if op = 2 then !b else if op = 12 then a && b else a || b
theorem join_any (op : Int) (a b : Bool) (w : World) : Calls Tryd.prog 58 #[.int .i64 op, .bool a, .bool b] w fun e w' => e = .returned (.bool (joinB op a b)) ∧ w' = w := by
  by_cases h2 : op = 2
  · subst h2
    cases a <;> cases b
    all_goals
      go_enter Tryd.func58, Tryd.ntmps58
      go_wp2
      go_ret
      exact ⟨by rfl, rfl⟩
  · by_cases h12 : op = 12
    · subst h12
      cases a <;> cases b
      all_goals
        go_enter Tryd.func58, Tryd.ntmps58
        go_wp2
        go_ret
        exact ⟨by rfl, rfl⟩
    · have He : Hid (∀ a b, joinB op a b = (a || b)) := fun a b => by unfold joinB; rw [if_neg h2, if_neg h12]
      have b2 : (op == 2) = false := by simpa using h2
      have b12 : (op == 12) = false := by simpa using h12
      clear h2 h12
      cases a <;> cases b
      all_goals
        go_enter Tryd.func58, Tryd.ntmps58
        go_wp2
        go_ret
        exact ⟨by rw [He.out]; rfl, rfl⟩
/-- what the order c of two values tells of operation op -/
def holdsB (op c : Int) : Bool := if op = 7 then !(c == 0) else if op = 6 then c == 0 else if op = 9 then decide (c ≤ 0) else if op = 8 then decide (c < 0) else if op = 11 then decide (0 ≤ c) else if op = 10 then decide (0 < c) else false
theorem holds_at (op c : Int) (hop : 6 ≤ op ∧ op ≤ 11) (hc : c = -1 ∨ c = 0 ∨ c = 1) (w : World) : Calls Tryd.prog 57 #[.int .i64 op, .int .i64 c] w fun e w' => e = .returned (.bool (holdsB op c)) ∧ w' = w := by
  have h6 : op = 6 ∨ op = 7 ∨ op = 8 ∨ op = 9 ∨ op = 10 ∨ op = 11 := by omega
  clear hop
  rcases h6 with rfl | rfl | rfl | rfl | rfl | rfl <;> rcases hc with rfl | rfl | rfl
  all_goals
    go_enter Tryd.func57, Tryd.ntmps57
    go_wp2
    go_ret
    exact ⟨by rfl, rfl⟩

def valid (k n : Int) (s : ByteArray) (b : Bool) : Bool :=
  if k = 1 then veq k n s b 1 n ⟨#[]⟩ false else if k = 2 then veq k n s b 2 0 s false && decide ((s.size : Int) ≤ 256) else if k = 3 then veq k n s b 3 0 ⟨#[]⟩ b else false
end Go.Proofs.YtcjibjiojgikjaaDoor
