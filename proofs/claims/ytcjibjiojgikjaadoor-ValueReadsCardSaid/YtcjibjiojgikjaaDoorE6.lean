/- Contracts of the document's own answer's number, truth, times. -/
import Derived.Test.YtcjibjiojgikjaaDoorW1
import Derived.Test.YtcjibjiojgikjaaDoorL5
import Derived.WalkKit
import Derived.WalkSpells
import Derived.WalkLawsBesides
import Derived.Lib.Hide
import Derived.LoopN
import Derived.LoopTactic
namespace Go.Proofs.YtcjibjiojgikjaaDoor
open Go Go.RowKit
set_option maxHeartbeats 1000000
set_option linter.unusedVariables false
set_option linter.unusedSimpArgs false
theorem truth_r (b : Bool) (w : World) : Calls Tryd.prog 46 #[.bool b] w fun e w' => e = .returned (.agg #[.int .i64 3, .int .i64 0, .string ⟨#[]⟩, .bool b]) ∧ Below w.heap.size w w' := by
  go_enter Tryd.func46, Tryd.ntmps46
  go_wp2
  refine bodyPost_ret (v := .agg #[.int .i64 3, .int .i64 0, .string ⟨#[]⟩, .bool b]) (by simp [results, Tryd.results46, go_sem]) rfl ?_
  exact ⟨rfl, (Below.refl _ _).alloc (Nat.le_refl _) _⟩
theorem number_r (x : Int) (w : World) : Calls Tryd.prog 47 #[.int .u64 x] w fun e w' => e = .returned (.agg #[.int .i64 1, .int .i64 (wrap64 x), .string ⟨#[]⟩, .bool false]) ∧ Below w.heap.size w w' := by
  go_enter Tryd.func47, Tryd.ntmps47
  go_wp2
  refine bodyPost_ret (v := .agg #[.int .i64 1, .int .i64 (wrap64 x), .string ⟨#[]⟩, .bool false]) (by simp [results, Tryd.results47, go_sem]) rfl ?_
  exact ⟨rfl, (Below.refl _ _).alloc (Nat.le_refl _) _⟩
theorem u64_wrap (x : Int) : ∃ t : Int, IntKind.u64.wrap x = x - t * 18446744073709551616 ∧ 0 ≤ x - t * 18446744073709551616 ∧ x - t * 18446744073709551616 < 18446744073709551616 := by
  have h : IntKind.u64.wrap x = x % 18446744073709551616 := rfl
  exact ⟨x / 18446744073709551616, by rw [h]; omega, by omega, by omega⟩
theorem mul_odd {a b c : Int} (h : b = c + c + 1) : a * b = a * c + a * c + a := by rw [h, Int.mul_add, Int.mul_add, Int.mul_one]
theorem mul_even {a b c : Int} (h : b = c + c) : a * b = a * c + a * c := by rw [h, Int.mul_add]
theorem mul_dbl (a t c M : Int) : (a + a - t * M) * c = a * c + a * c - (t * c) * M := by rw [Int.sub_mul, Int.add_mul, Int.mul_assoc t M c, Int.mul_comm M c, ← Int.mul_assoc t c M]
theorem times_r (a b : Int) (ha0 : 0 ≤ a) (ha1 : a < 18446744073709551616) (hb0 : 0 ≤ b) (hb1 : b < 18446744073709551616) (w : World) : Calls Tryd.prog 48 #[.int .u64 a, .int .u64 b] w fun e w' => ∃ x : Int, e = .returned (.int .u64 x) ∧ w' = w ∧ ∃ q : Int, x = a * b - q * 18446744073709551616 := by
  go_enter Tryd.func48, Tryd.ntmps48
  go_wp2
  go_loopw [0, 1, 5] (fun s0 s1 s5 wr => ∃ a' b' n q : Int, s0 = .int .u64 a' ∧ s1 = .int .u64 b' ∧ s5 = .int .u64 n ∧ 0 ≤ a' ∧ a' < 18446744073709551616 ∧ 0 ≤ b' ∧ b' < 18446744073709551616 ∧ 0 ≤ n ∧ n < 18446744073709551616 ∧ n + a' * b' = a * b - q * 18446744073709551616 ∧ wr = w) (fun _ s1 _ _ => (intOf s1).toNat)
  case atStart => exact ⟨a, b, 0, 0, rfl, rfl, rfl, ha0, ha1, hb0, hb1, by omega, by omega, by omega, rfl⟩
  case round =>
    obtain ⟨a', b', n, q, rfl, rfl, rfl, h1, h2, h3, h4, h5, h6, h7, rfl⟩ := hrel
    have H7 := Lib.hid h7
    clear h7
    by_cases h : 0 < b'
    · by_cases hr : b' % 2 = 1
      · go_wp2
        go_roundw
        case rel =>
          obtain ⟨t, ht, t0, t1⟩ := u64_wrap (a' + a')
          obtain ⟨t', ht', t0', t1'⟩ := u64_wrap (n + a')
          have e1 := mul_dbl a' t (b' / 2) 18446744073709551616
          have e2 := mul_odd (a := a') (b := b') (c := b' / 2) (by omega)
          have H := H7.out
          refine ⟨a' + a' - t * 18446744073709551616, b' / 2, n + a' - t' * 18446744073709551616, q + t' + t * (b' / 2), by rw [ht], rfl, by rw [ht'], t0, t1, by omega, by omega, t0', t1', ?_, ?_⟩
          · rw [e1]
            rw [e2] at H
            generalize a' * (b' / 2) = p1 at *
            generalize t * (b' / 2) = p2 at *
            omega
          · first | rfl | trivial
        case measure => simp [intOf]; omega
      · go_wp2
        go_roundw
        case rel =>
          obtain ⟨t, ht, t0, t1⟩ := u64_wrap (a' + a')
          have e1 := mul_dbl a' t (b' / 2) 18446744073709551616
          have e2 := mul_even (a := a') (b := b') (c := b' / 2) (by omega)
          have H := H7.out
          refine ⟨a' + a' - t * 18446744073709551616, b' / 2, n, q + t * (b' / 2), by rw [ht], rfl, rfl, t0, t1, by omega, by omega, h5, h6, ?_, ?_⟩
          · rw [e1]
            rw [e2] at H
            generalize a' * (b' / 2) = p1 at *
            generalize t * (b' / 2) = p2 at *
            omega
          · first | rfl | trivial
        case measure => simp [intOf]; omega
    · have hb : b' = 0 := by omega
      go_wp2
      go_ret
      exact ⟨n, rfl, rfl, q, by have := H7.out; rw [hb] at this; simpa using this⟩
end Go.Proofs.YtcjibjiojgikjaaDoor
