/- Contracts of package wire's unsigned, signed, appendInt. -/
import Derived.Test.YtlinpkmfjkcoiaaDoorM2
import Derived.Lib.AppendStr
import Derived.Lib.UnsafeStr
import Derived.BigQuiet
import Derived.OwnWalk
import Derived.Laws.Bits128
import Derived.Laws.Bits64b
import Derived.Laws.BitsAllLaws
import Derived.Deep.AppendLies
import Derived.Deep.RegionLaw
namespace Go.Proofs.YtlinpkmfjkcoiaaDoor
open Go Go.RowKit
set_option maxHeartbeats 1000000
set_option linter.unusedVariables false
set_option linter.unusedSimpArgs false
theorem infoByte : (Tryd.prog.info? 5).map (fun i => (i.zero, i.size, i.bytes)) = some (some (.int .u8 0), 1, 1) := by kernel_rfl
theorem unsigned_any (n : Int) (h : I64 n) (w : World) : Calls Tryd.prog 73 #[.int .i64 n] w fun e w' => e = .returned (.int .u64 (zig n)) ∧ w' = w := by
  obtain ⟨h0, h1⟩ := h
  by_cases hn : n < 0
  · have HZ : Hid ((zig n : Int) = 2 * -(n + 1) + 1) := by show _ = _; unfold zig; rw [if_pos hn]; omega
    go_enter Tryd.func73, Tryd.ntmps73
    go_wp2
    go_ret
    refine ⟨?_, by first | rfl | trivial⟩; rw [HZ.out]; rfl
  · have HZ : Hid ((zig n : Int) = 2 * n) := by show _ = _; unfold zig; rw [if_neg hn]; omega
    go_enter Tryd.func73, Tryd.ntmps73
    go_wp2
    go_ret
    refine ⟨?_, by first | rfl | trivial⟩; rw [HZ.out]; rfl
theorem signed_any (z : Nat) (h : z < 18446744073709551616) (w : World) : Calls Tryd.prog 75 #[.int .u64 z] w fun e w' => e = .returned (.int .i64 (zag z)) ∧ w' = w := by
  by_cases hn : z % 2 = 1
  · have HZ : Hid (zag z = -((z / 2 : Nat) : Int) - 1) := by show _ = _; unfold zag; rw [if_pos hn]
    go_enter Tryd.func75, Tryd.ntmps75
    go_wp2
    all_goals go_ret
    all_goals refine ⟨?_, by first | rfl | trivial⟩; rw [HZ.out]; rfl
  · have HZ : Hid (zag z = ((z / 2 : Nat) : Int)) := by show _ = _; unfold zag; rw [if_neg hn]
    go_enter Tryd.func75, Tryd.ntmps75
    go_wp2
    all_goals go_ret
    all_goals refine ⟨?_, by first | rfl | trivial⟩; rw [HZ.out]; rfl
end Go.Proofs.YtlinpkmfjkcoiaaDoor
