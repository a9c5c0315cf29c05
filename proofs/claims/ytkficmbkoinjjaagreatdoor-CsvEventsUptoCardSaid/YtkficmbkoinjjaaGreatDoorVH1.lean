/- Contract of the library's ParseUint at base 16, 8 bits and two bytes. -/
import Derived.WalkKit
import Derived.WalkSpells
import Derived.WalkLawsBesides
import Derived.Lib.Hide
import Derived.Lib.ConvBytes
import Derived.LoopN
import Derived.Test.YtkficmbkoinjjaaGreatDoorVSh
namespace Go.Proofs.YtkficmbkoinjjaaGreatDoor.V
open Go Go.RowKit
set_option maxHeartbeats 400000
set_option linter.unusedVariables false
set_option linter.unusedSimpArgs false
/-- two bytes as a row of bytes -/
def Conv2 (t : ByteArray) (w : World) (a b : Int) (cp : Nat) (w1 : World) : Prop :=
  (convert 9 87 (.string t)).run Tryz.prog w = .ok (.slice (some ⟨w.heap.size, 0, none⟩) 2 cp) w1 ∧ w1.cell? ⟨w.heap.size, 0, none⟩ = some (.int .u8 a) ∧ w1.cell? ⟨w.heap.size, 1, none⟩ = some (.int .u8 b) ∧ Below w.heap.size w w1
def lo (c : Int) : Int := bits .or .u8 c 32
theorem lower_any (c : Int) (w : World) : Calls Tryz.prog 133 #[.int .u8 c] w fun e w' => e = .returned (.int .u8 (lo c)) ∧ w' = w := Any.internal_strconv_lower Tryz.lays321 c w
def PuPost (v : Int) (er : Value) (w : World) (e : Ending) (w' : World) : Prop := e = .returned (.tuple #[.int .u64 v, er]) ∧ Below w.heap.size w w'
set_option maxRecDepth 100000 in
theorem pu_DD (t : ByteArray) (a b : Int) (w w1 : World) (cp : Nat) (hc : Conv2 t w a b cp w1) (hne : (t.toList == []) = false) (a0 : 48 ≤ a) (a1 : a ≤ 57) (b0 : 48 ≤ b) (b1 : b ≤ 57) :
    Calls Tryz.prog 121 #[.string t, .int .i64 16, .int .i64 8] w (PuPost ((a - 48) * 16 + (b - 48)) .nilIface w) := by
  obtain ⟨hcv, hc0, hc1, hb⟩ := hc
  have HB := Lib.hid hb
  clear hb
  go_enter Tryz.func121, Tryz.ntmps121
  go_wp2_with fail
  refine wp_loop_rounds 3 ?_
  rw [rounds_succ]
  go_wp2_with (go_at_call 133; refine (lower_any _ _).mono ?_; rintro e w' ⟨rfl, rfl⟩)
  rw [rounds_succ]
  go_wp2_with (go_at_call 133; refine (lower_any _ _).mono ?_; rintro e w' ⟨rfl, rfl⟩)
  rw [rounds_succ]
  go_wp2_with (go_at_call 133; refine (lower_any _ _).mono ?_; rintro e w' ⟨rfl, rfl⟩)
  go_ret2
  exact ⟨rfl, HB.out⟩
set_option maxRecDepth 100000 in
theorem pu_DL (t : ByteArray) (a b : Int) (w w1 : World) (cp : Nat) (hc : Conv2 t w a b cp w1) (hne : (t.toList == []) = false) (a0 : 48 ≤ a) (a1 : a ≤ 57) (b0 : 58 ≤ b) (b1 : 97 ≤ lo b) (b2 : lo b ≤ 102) (bv : (b == 95) = false) :
    Calls Tryz.prog 121 #[.string t, .int .i64 16, .int .i64 8] w (PuPost ((a - 48) * 16 + (lo b - 97 + 10)) .nilIface w) := by
  obtain ⟨hcv, hc0, hc1, hb⟩ := hc
  have HB := Lib.hid hb
  clear hb
  go_enter Tryz.func121, Tryz.ntmps121
  go_wp2_with fail
  refine wp_loop_rounds 3 ?_
  rw [rounds_succ]
  go_wp2_with (go_at_call 133; refine (lower_any _ _).mono ?_; rintro e w' ⟨rfl, rfl⟩)
  rw [rounds_succ]
  go_wp2_with (go_at_call 133; refine (lower_any _ _).mono ?_; rintro e w' ⟨rfl, rfl⟩)
  rw [rounds_succ]
  go_wp2_with (go_at_call 133; refine (lower_any _ _).mono ?_; rintro e w' ⟨rfl, rfl⟩)
  go_ret2
  exact ⟨rfl, HB.out⟩
set_option maxRecDepth 100000 in
theorem pu_DX (t : ByteArray) (a b : Int) (w w1 : World) (cp : Nat) (hc : Conv2 t w a b cp w1) (hne : (t.toList == []) = false) (a0 : 48 ≤ a) (a1 : a ≤ 57) (b0 : 58 ≤ b) (b1 : 103 ≤ lo b) (b2 : lo b ≤ 122) (bv : (b == 95) = false) :
    Calls Tryz.prog 121 #[.string t, .int .i64 16, .int .i64 8] w (PuPost 0 (.iface 158 (.int .i64 2)) w) := by
  obtain ⟨hcv, hc0, hc1, hb⟩ := hc
  have HB := Lib.hid hb
  clear hb
  go_enter Tryz.func121, Tryz.ntmps121
  go_wp2_with fail
  refine wp_loop_rounds 3 ?_
  rw [rounds_succ]
  go_wp2_with (go_at_call 133; refine (lower_any _ _).mono ?_; rintro e w' ⟨rfl, rfl⟩)
  rw [rounds_succ]
  go_wp2_with (go_at_call 133; refine (lower_any _ _).mono ?_; rintro e w' ⟨rfl, rfl⟩)
  go_ret2
  exact ⟨rfl, HB.out⟩
set_option maxRecDepth 100000 in
theorem pu_DM (t : ByteArray) (a b : Int) (w w1 : World) (cp : Nat) (hc : Conv2 t w a b cp w1) (hne : (t.toList == []) = false) (a0 : 48 ≤ a) (a1 : a ≤ 57) (b0 : b < 48) (b1 : lo b < 97) :
    Calls Tryz.prog 121 #[.string t, .int .i64 16, .int .i64 8] w (PuPost 0 (.iface 158 (.int .i64 2)) w) := by
  obtain ⟨hcv, hc0, hc1, hb⟩ := hc
  have HB := Lib.hid hb
  clear hb
  go_enter Tryz.func121, Tryz.ntmps121
  go_wp2_with fail
  refine wp_loop_rounds 3 ?_
  rw [rounds_succ]
  go_wp2_with (go_at_call 133; refine (lower_any _ _).mono ?_; rintro e w' ⟨rfl, rfl⟩)
  rw [rounds_succ]
  go_wp2_with (go_at_call 133; refine (lower_any _ _).mono ?_; rintro e w' ⟨rfl, rfl⟩)
  go_ret2
  exact ⟨rfl, HB.out⟩
set_option maxRecDepth 100000 in
theorem pu_DN (t : ByteArray) (a b : Int) (w w1 : World) (cp : Nat) (hc : Conv2 t w a b cp w1) (hne : (t.toList == []) = false) (a0 : 48 ≤ a) (a1 : a ≤ 57) (b0 : 58 ≤ b) (b1 : lo b < 97) (bv : (b == 95) = false) :
    Calls Tryz.prog 121 #[.string t, .int .i64 16, .int .i64 8] w (PuPost 0 (.iface 158 (.int .i64 2)) w) := by
  obtain ⟨hcv, hc0, hc1, hb⟩ := hc
  have HB := Lib.hid hb
  clear hb
  go_enter Tryz.func121, Tryz.ntmps121
  go_wp2_with fail
  refine wp_loop_rounds 3 ?_
  rw [rounds_succ]
  go_wp2_with (go_at_call 133; refine (lower_any _ _).mono ?_; rintro e w' ⟨rfl, rfl⟩)
  rw [rounds_succ]
  go_wp2_with (go_at_call 133; refine (lower_any _ _).mono ?_; rintro e w' ⟨rfl, rfl⟩)
  go_ret2
  exact ⟨rfl, HB.out⟩
set_option maxRecDepth 100000 in
theorem pu_DO (t : ByteArray) (a b : Int) (w w1 : World) (cp : Nat) (hc : Conv2 t w a b cp w1) (hne : (t.toList == []) = false) (a0 : 48 ≤ a) (a1 : a ≤ 57) (b0 : 58 ≤ b) (b1 : 122 < lo b) (bv : (b == 95) = false) :
    Calls Tryz.prog 121 #[.string t, .int .i64 16, .int .i64 8] w (PuPost 0 (.iface 158 (.int .i64 2)) w) := by
  obtain ⟨hcv, hc0, hc1, hb⟩ := hc
  have HB := Lib.hid hb
  clear hb
  go_enter Tryz.func121, Tryz.ntmps121
  go_wp2_with fail
  refine wp_loop_rounds 3 ?_
  rw [rounds_succ]
  go_wp2_with (go_at_call 133; refine (lower_any _ _).mono ?_; rintro e w' ⟨rfl, rfl⟩)
  rw [rounds_succ]
  go_wp2_with (go_at_call 133; refine (lower_any _ _).mono ?_; rintro e w' ⟨rfl, rfl⟩)
  go_ret2
  exact ⟨rfl, HB.out⟩
set_option maxRecDepth 100000 in
theorem pu_DU (t : ByteArray) (a b : Int) (w w1 : World) (cp : Nat) (hc : Conv2 t w a b cp w1) (hne : (t.toList == []) = false) (a0 : 48 ≤ a) (a1 : a ≤ 57) (b0 : 58 ≤ b) (b1 : 122 < lo b) (bv : (b == 95) = true) :
    Calls Tryz.prog 121 #[.string t, .int .i64 16, .int .i64 8] w (PuPost 0 (.iface 158 (.int .i64 2)) w) := by
  obtain ⟨hcv, hc0, hc1, hb⟩ := hc
  have HB := Lib.hid hb
  clear hb
  go_enter Tryz.func121, Tryz.ntmps121
  go_wp2_with fail
  refine wp_loop_rounds 3 ?_
  rw [rounds_succ]
  go_wp2_with (go_at_call 133; refine (lower_any _ _).mono ?_; rintro e w' ⟨rfl, rfl⟩)
  rw [rounds_succ]
  go_wp2_with (go_at_call 133; refine (lower_any _ _).mono ?_; rintro e w' ⟨rfl, rfl⟩)
  go_ret2
  exact ⟨rfl, HB.out⟩
end Go.Proofs.YtkficmbkoinjjaaGreatDoor.V
