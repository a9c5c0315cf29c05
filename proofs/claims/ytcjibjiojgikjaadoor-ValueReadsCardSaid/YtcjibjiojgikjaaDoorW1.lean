/- Numbers that wrap: plain facts for the law of sums and products. -/
import Derived.Test.YtcjibjiojgikjaaDoorL1a
namespace Go.Proofs.YtcjibjiojgikjaaDoor
open Go Go.RowKit
set_option linter.unusedVariables false
theorem wrap_mod (x : Int) : wrap64 x % 18446744073709551616 = x % 18446744073709551616 := by unfold wrap64; omega
theorem wrap_eq {x y : Int} (h : x % 18446744073709551616 = y % 18446744073709551616) : wrap64 x = wrap64 y := by unfold wrap64; omega
theorem wrap_id {x : Int} (h0 : -9223372036854775808 ≤ x) (h1 : x ≤ 9223372036854775807) : wrap64 x = x := by unfold wrap64; omega
theorem wrap_add_l (x y : Int) : wrap64 (wrap64 x + y) = wrap64 (x + y) := wrap_eq (by rw [Int.add_emod, wrap_mod, ← Int.add_emod])
theorem wrap_add_r (x y : Int) : wrap64 (x + wrap64 y) = wrap64 (x + y) := wrap_eq (by rw [Int.add_emod, wrap_mod, ← Int.add_emod])
theorem wrap_mul_l (x y : Int) : wrap64 (wrap64 x * y) = wrap64 (x * y) := wrap_eq (by rw [Int.mul_emod, wrap_mod, ← Int.mul_emod])
theorem wrap_mul_r (x y : Int) : wrap64 (x * wrap64 y) = wrap64 (x * y) := wrap_eq (by rw [Int.mul_emod, wrap_mod, ← Int.mul_emod])
theorem rec3 (a b : Int) : reckonI 3 a b = wrap64 (a + b) := by unfold reckonI; rw [if_neg (by omega), if_pos rfl]
theorem rec4 (a b : Int) : reckonI 4 a b = wrap64 (a + -b) := by unfold reckonI; rw [if_pos (by omega), wrap_add_r]
theorem rec5 (a b : Int) : reckonI 5 a b = wrap64 (a * b) := by unfold reckonI; rw [if_neg (by omega), if_neg (by omega)]
theorem ring_comm (a b : Int) : reckonI 3 a b = reckonI 3 b a := by rw [rec3, rec3, Int.add_comm]
theorem ring_assoc (a b c : Int) : reckonI 3 (reckonI 3 a b) c = reckonI 3 a (reckonI 3 b c) := by rw [rec3, rec3, rec3, rec3, wrap_add_l, wrap_add_r, Int.add_assoc]
theorem ring_back (a b : Int) (h0 : -9223372036854775808 ≤ a) (h1 : a ≤ 9223372036854775807) : reckonI 4 (reckonI 3 a b) b = a := by
  rw [rec4, rec3, wrap_add_l, show a + b + -b = a from by omega, wrap_id h0 h1]
theorem ring_mcomm (a b : Int) : reckonI 5 a b = reckonI 5 b a := by rw [rec5, rec5, Int.mul_comm]
theorem ring_massoc (a b c : Int) : reckonI 5 (reckonI 5 a b) c = reckonI 5 a (reckonI 5 b c) := by rw [rec5, rec5, rec5, rec5, wrap_mul_l, wrap_mul_r, Int.mul_assoc]
theorem ring_distr (a b c : Int) : reckonI 5 a (reckonI 3 b c) = reckonI 3 (reckonI 5 a b) (reckonI 5 a c) := by rw [rec5, rec3, rec3, rec5, rec5, wrap_mul_r, wrap_add_l, wrap_add_r, Int.mul_add]
theorem ring_one (a : Int) (h0 : -9223372036854775808 ≤ a) (h1 : a ≤ 9223372036854775807) : reckonI 5 a 1 = a := by rw [rec5, Int.mul_one, wrap_id h0 h1]
end Go.Proofs.YtcjibjiojgikjaaDoor
