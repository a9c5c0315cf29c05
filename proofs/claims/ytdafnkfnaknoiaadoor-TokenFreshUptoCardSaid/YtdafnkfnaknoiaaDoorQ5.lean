/- Tokens that are compared. -/
import Derived.Test.YtdafnkfnaknoiaaDoorD2
namespace Go.Proofs.YtdafnkfnaknoiaaDoor
open Go Go.RowKit
set_option maxHeartbeats 1000000
set_option linter.unusedVariables false
set_option linter.unusedSimpArgs false
def teq (k : Int) (s : ByteArray) (a : Int) (k' : Int) (s' : ByteArray) (a' : Int) : Bool := k == k' && (s.toList == s'.toList && a == a')
theorem run_eqlIn_T (w : World) (k : Int) (s : ByteArray) (a : Int) (k' : Int) (s' : ByteArray) (a' : Int) :
    (Op.equalIn 10000 28 (.agg #[.int .i64 k, .string s, .int .i64 a]) (.agg #[.int .i64 k', .string s', .int .i64 a'])).run Tryd.prog w = .ok (teq k s a k' s' a') w := by
  have hf : (Tryd.prog.fieldsOf 28).toList = [{ name := "Kind", type := 3, offset := 0, embedded := false, tag := "", pkgPath := "", byteOffset := 0 },
        { name := "Text", type := 9, offset := 1, embedded := false, tag := "", pkgPath := "", byteOffset := 8 },
        { name := "At", type := 3, offset := 2, embedded := false, tag := "", pkgPath := "", byteOffset := 24 }] := by kernel_rfl
  rw [show (10000 : Nat) = 9998 + 1 + 1 from rfl, run_equalIn_agg w _ 28 _ _ (by kernel_rfl) (by kernel_rfl), hf]
  unfold teq
  cases h1 : k == k' <;> cases h2 : s.toList == s'.toList <;> cases h3 : a == a' <;> simp [Op.eqFields, go_sem, h1, h2, h3]
theorem run_eql_T (w : World) (k : Int) (s : ByteArray) (a : Int) (k' : Int) (s' : ByteArray) (a' : Int) :
    (binOp .eql 28 (.agg #[.int .i64 k, .string s, .int .i64 a]) (.agg #[.int .i64 k', .string s', .int .i64 a'])).run Tryd.prog w = .ok (.bool (teq k s a k' s' a')) w := by
  rw [run_eql_struct, run_eqlIn_T]; rfl
theorem run_neq_T (w : World) (k : Int) (s : ByteArray) (a : Int) (k' : Int) (s' : ByteArray) (a' : Int) :
    (binOp .neq 28 (.agg #[.int .i64 k, .string s, .int .i64 a]) (.agg #[.int .i64 k', .string s', .int .i64 a'])).run Tryd.prog w = .ok (.bool (!teq k s a k' s' a')) w := by
  rw [run_neq_struct, run_eqlIn_T]; rfl
theorem teq_self (k : Int) (s : ByteArray) (a : Int) : teq k s a k s a = true := by simp [teq]
end Go.Proofs.YtdafnkfnaknoiaaDoor
