/- Contract of the law's helper 'plays': a step's answer is the document's. -/
import Derived.Test.YtcjibjiojgikjaaDoorSy
import Derived.WalkKit
import Derived.WalkSpells
import Derived.WalkLawsBesides
import Derived.Lib.Hide
namespace Go.Proofs.YtcjibjiojgikjaaDoor.lawScript
open Go Go.ChangeShapes Go.WideShapes Go.ChangeAt Go.RowKit
set_option maxHeartbeats 4000000
set_option linter.unusedVariables false
set_option linter.unusedSimpArgs false
attribute [local go_sem ↓] run_eql_V run_neq_V
/-- a step's answer -/
def Played (w0 : World) (e : Ending) (w' : World) : Prop := ∃ l : ByteArray, e = .returned (.tuple #[.string l, .bool true]) ∧ Ok w0 w'
set_option maxRecDepth 100000 in
theorem plays_read (kind k1 n1 : Int) (s1 : ByteArray) (b1 : Bool) (k2 n2 : Int) (s2 : ByteArray) (b2 : Bool) (text : ByteArray) (N : Int) (last : ByteArray) (hk : kind = 2) (W w : World) (hw : Ok W w) : Calls Tryd.prog 27 #[.agg #[.int .i64 kind, .int .i64 k1, .int .i64 n1, .string s1, .bool b1, .int .i64 k2, .int .i64 n2, .string s2, .bool b2, .string text, .int .i64 N], .string last] w (Played W) := by
  have e1 : (kind == 1) = false := by simp; omega
  have e2 : (kind == 2) = true := by simp; omega
  obtain ⟨K, N', S, T, E, ha, hb⟩ := both_read text W
  have HA := Lib.hid ha
  have HB := Lib.hid hb
  have q1 : veq K N' S T K N' S T = true := veq_self _ _ _ _
  clear ha hb
  have HW := Lib.hid hw
  clear hw
  go_enter Tryd.func27, Tryd.ntmps27
  go_wp2_with fail
  refine (HA.out _ (HW.out.alloc _)).mono ?_
  rintro e w1 ⟨rfl, hb1⟩
  have H1 := Lib.hid ((HW.out.alloc _).on hb1)
  have z1 : w.heap.size < w1.heap.size := by have := hb1.size; simp at this; omega
  obtain ⟨hc1, hf1⟩ := bcell hb1
  have y1 : w.heap.size < (w.alloc (Obj.cells #[.int .i64 kind, .int .i64 k1, .int .i64 n1, .string s1, .bool b1, .int .i64 k2, .int .i64 n2, .string s2, .bool b2, .string text, .int .i64 N] 54)).heap.size := by simp
  clear hb1
  go_wp2_with fail
  refine (HB.out _ (H1.out.alloc _)).mono ?_
  rintro e w2 ⟨rfl, hb2⟩
  have H2 := Lib.hid ((H1.out.alloc _).on hb2)
  have z2 : w1.heap.size < w2.heap.size := by have := hb2.size; simp at this; omega
  obtain ⟨hc2, hf2⟩ := bcell hb2
  clear hb2
  go_wp2
  go_ret2
  exact ⟨_, rfl, H2.out.alloc _⟩
set_option maxRecDepth 100000 in
theorem plays_binary (kind k1 n1 : Int) (s1 : ByteArray) (b1 : Bool) (k2 n2 : Int) (s2 : ByteArray) (b2 : Bool) (text : ByteArray) (N : Int) (last : ByteArray) (hk : kind = 4) (hz : s1.size ≤ maxLen) (W w : World) (hw : Ok W w) : Calls Tryd.prog 27 #[.agg #[.int .i64 kind, .int .i64 k1, .int .i64 n1, .string s1, .bool b1, .int .i64 k2, .int .i64 n2, .string s2, .bool b2, .string text, .int .i64 N], .string last] w (Played W) := by
  have e1 : (kind == 1) = false := by simp; omega
  have e2 : (kind == 2) = false := by simp; omega
  have e3 : (kind == 3) = false := by simp; omega
  have e4 : (kind == 4) = true := by simp; omega
  obtain ⟨K, N', S, T, E, ha, hb⟩ := both_binary N k1 n1 s1 b1 k2 n2 s2 b2 hz W
  have HA := Lib.hid ha
  have HB := Lib.hid hb
  have q1 : veq K N' S T K N' S T = true := veq_self _ _ _ _
  clear ha hb
  have HW := Lib.hid hw
  clear hw
  go_enter Tryd.func27, Tryd.ntmps27
  go_wp2_with fail
  refine (HA.out _ (HW.out.alloc _)).mono ?_
  rintro e w1 ⟨rfl, hb1⟩
  have H1 := Lib.hid ((HW.out.alloc _).on hb1)
  have z1 : w.heap.size < w1.heap.size := by have := hb1.size; simp at this; omega
  obtain ⟨hc1, hf1⟩ := bcell hb1
  have y1 : w.heap.size < (w.alloc (Obj.cells #[.int .i64 kind, .int .i64 k1, .int .i64 n1, .string s1, .bool b1, .int .i64 k2, .int .i64 n2, .string s2, .bool b2, .string text, .int .i64 N] 54)).heap.size := by simp
  clear hb1
  go_wp2_with fail
  refine (HB.out _ (H1.out.alloc _)).mono ?_
  rintro e w2 ⟨rfl, hb2⟩
  have H2 := Lib.hid ((H1.out.alloc _).on hb2)
  have z2 : w1.heap.size < w2.heap.size := by have := hb2.size; simp at this; omega
  obtain ⟨hc2, hf2⟩ := bcell hb2
  clear hb2
  go_wp2
  go_ret2
  exact ⟨_, rfl, H2.out.alloc _⟩
set_option maxRecDepth 100000 in
theorem plays_unary (kind k1 n1 : Int) (s1 : ByteArray) (b1 : Bool) (k2 n2 : Int) (s2 : ByteArray) (b2 : Bool) (text : ByteArray) (N : Int) (last : ByteArray) (hk : kind = 5) (W w : World) (hw : Ok W w) : Calls Tryd.prog 27 #[.agg #[.int .i64 kind, .int .i64 k1, .int .i64 n1, .string s1, .bool b1, .int .i64 k2, .int .i64 n2, .string s2, .bool b2, .string text, .int .i64 N], .string last] w (Played W) := by
  have e1 : (kind == 1) = false := by simp; omega
  have e2 : (kind == 2) = false := by simp; omega
  have e3 : (kind == 3) = false := by simp; omega
  have e4 : (kind == 4) = false := by simp; omega
  have e5 : (kind == 5) = true := by simp; omega
  obtain ⟨K, N', S, T, E, ha, hb⟩ := both_unary N k1 n1 s1 b1 W
  have HA := Lib.hid ha
  have HB := Lib.hid hb
  have q1 : veq K N' S T K N' S T = true := veq_self _ _ _ _
  clear ha hb
  have HW := Lib.hid hw
  clear hw
  go_enter Tryd.func27, Tryd.ntmps27
  go_wp2_with fail
  refine (HA.out _ (HW.out.alloc _)).mono ?_
  rintro e w1 ⟨rfl, hb1⟩
  have H1 := Lib.hid ((HW.out.alloc _).on hb1)
  have z1 : w.heap.size < w1.heap.size := by have := hb1.size; simp at this; omega
  obtain ⟨hc1, hf1⟩ := bcell hb1
  have y1 : w.heap.size < (w.alloc (Obj.cells #[.int .i64 kind, .int .i64 k1, .int .i64 n1, .string s1, .bool b1, .int .i64 k2, .int .i64 n2, .string s2, .bool b2, .string text, .int .i64 N] 54)).heap.size := by simp
  clear hb1
  go_wp2_with fail
  refine (HB.out _ (H1.out.alloc _)).mono ?_
  rintro e w2 ⟨rfl, hb2⟩
  have H2 := Lib.hid ((H1.out.alloc _).on hb2)
  have z2 : w1.heap.size < w2.heap.size := by have := hb2.size; simp at this; omega
  obtain ⟨hc2, hf2⟩ := bcell hb2
  clear hb2
  go_wp2
  go_ret2
  exact ⟨_, rfl, H2.out.alloc _⟩
set_option maxRecDepth 100000 in
theorem plays_back (kind k1 n1 : Int) (s1 : ByteArray) (b1 : Bool) (k2 n2 : Int) (s2 : ByteArray) (b2 : Bool) (text : ByteArray) (N : Int) (last : ByteArray) (hk : kind = 6) (W w : World) (hw : Ok W w) : Calls Tryd.prog 27 #[.agg #[.int .i64 kind, .int .i64 k1, .int .i64 n1, .string s1, .bool b1, .int .i64 k2, .int .i64 n2, .string s2, .bool b2, .string text, .int .i64 N], .string last] w (Played W) := by
  have e1 : (kind == 1) = false := by simp; omega
  have e2 : (kind == 2) = false := by simp; omega
  have e3 : (kind == 3) = false := by simp; omega
  have e4 : (kind == 4) = false := by simp; omega
  have e5 : (kind == 5) = false := by simp; omega
  have e6 : (kind == 6) = true := by simp; omega
  obtain ⟨K, N', S, T, E, ha, hb⟩ := both_read last W
  have HA := Lib.hid ha
  have HB := Lib.hid hb
  have q1 : veq K N' S T K N' S T = true := veq_self _ _ _ _
  clear ha hb
  have HW := Lib.hid hw
  clear hw
  go_enter Tryd.func27, Tryd.ntmps27
  go_wp2_with fail
  refine (HA.out _ (HW.out.alloc _)).mono ?_
  rintro e w1 ⟨rfl, hb1⟩
  have H1 := Lib.hid ((HW.out.alloc _).on hb1)
  have z1 : w.heap.size < w1.heap.size := by have := hb1.size; simp at this; omega
  obtain ⟨hc1, hf1⟩ := bcell hb1
  have y1 : w.heap.size < (w.alloc (Obj.cells #[.int .i64 kind, .int .i64 k1, .int .i64 n1, .string s1, .bool b1, .int .i64 k2, .int .i64 n2, .string s2, .bool b2, .string text, .int .i64 N] 54)).heap.size := by simp
  clear hb1
  go_wp2_with fail
  refine (HB.out _ (H1.out.alloc _)).mono ?_
  rintro e w2 ⟨rfl, hb2⟩
  have H2 := Lib.hid ((H1.out.alloc _).on hb2)
  have z2 : w1.heap.size < w2.heap.size := by have := hb2.size; simp at this; omega
  obtain ⟨hc2, hf2⟩ := bcell hb2
  clear hb2
  go_wp2
  go_ret2
  exact ⟨_, rfl, H2.out.alloc _⟩
set_option maxRecDepth 100000 in
theorem plays_compare (kind k1 n1 : Int) (s1 : ByteArray) (b1 : Bool) (k2 n2 : Int) (s2 : ByteArray) (b2 : Bool) (text : ByteArray) (N : Int) (last : ByteArray) (hk : kind = 3) (hz : s1.size ≤ maxLen) (W w : World) (hw : Ok W w) : Calls Tryd.prog 27 #[.agg #[.int .i64 kind, .int .i64 k1, .int .i64 n1, .string s1, .bool b1, .int .i64 k2, .int .i64 n2, .string s2, .bool b2, .string text, .int .i64 N], .string last] w (Played W) := by
  have e1 : (kind == 1) = false := by simp; omega
  have e2 : (kind == 2) = false := by simp; omega
  have e3 : (kind == 3) = true := by simp; omega
  obtain ⟨c, ha, hb⟩ := both_compare k1 n1 s1 b1 k2 n2 s2 b2 hz W
  have HA := Lib.hid ha
  have HB := Lib.hid hb
  clear ha hb
  have HW := Lib.hid hw
  clear hw
  go_enter Tryd.func27, Tryd.ntmps27
  go_wp2_with fail
  refine (HA.out _ (HW.out.alloc _)).mono ?_
  rintro e w1 ⟨rfl, hb1⟩
  have H1 := Lib.hid ((HW.out.alloc _).on hb1)
  have z1 : w.heap.size < w1.heap.size := by have := hb1.size; simp at this; omega
  obtain ⟨hc1, hf1⟩ := bcell hb1
  have y1 : w.heap.size < (w.alloc (Obj.cells #[.int .i64 kind, .int .i64 k1, .int .i64 n1, .string s1, .bool b1, .int .i64 k2, .int .i64 n2, .string s2, .bool b2, .string text, .int .i64 N] 54)).heap.size := by simp
  clear hb1
  go_wp2_with fail
  refine (HB.out _ H1.out).mono ?_
  rintro e w2 ⟨rfl, hb2⟩
  have H2 := Lib.hid (H1.out.on hb2)
  clear hb2
  go_wp2
  go_ret2
  exact ⟨_, rfl, H2.out⟩
set_option maxRecDepth 100000 in
theorem plays_show (kind k1 n1 : Int) (s1 : ByteArray) (b1 : Bool) (k2 n2 : Int) (s2 : ByteArray) (b2 : Bool) (text : ByteArray) (N : Int) (last : ByteArray) (hk : kind = 1) (hn : I64 n1) (W w : World) (hw : Ok W w) : Calls Tryd.prog 27 #[.agg #[.int .i64 kind, .int .i64 k1, .int .i64 n1, .string s1, .bool b1, .int .i64 k2, .int .i64 n2, .string s2, .bool b2, .string text, .int .i64 N], .string last] w (Played W) := by
  have e1 : (kind == 1) = true := by simp; omega
  obtain ⟨v, ha, hb⟩ := both_valid k1 n1 s1 b1 W
  obtain ⟨t, E, hc, hd⟩ := both_show k1 n1 s1 b1 hn W
  have HA := Lib.hid ha
  have HB := Lib.hid hb
  have HC := Lib.hid hc
  have HD := Lib.hid hd
  clear ha hb hc hd
  have HW := Lib.hid hw
  clear hw
  go_enter Tryd.func27, Tryd.ntmps27
  have y1 : w.heap.size < (w.alloc (Obj.cells #[.int .i64 kind, .int .i64 k1, .int .i64 n1, .string s1, .bool b1, .int .i64 k2, .int .i64 n2, .string s2, .bool b2, .string text, .int .i64 N] 54)).heap.size := by simp
  go_wp2_with fail
  refine (HA.out _ (HW.out.alloc _)).mono ?_
  rintro e w1 ⟨rfl, hb1⟩
  have H1 := Lib.hid ((HW.out.alloc _).on hb1)
  have z1 : w.heap.size < w1.heap.size := by have := hb1.size; simp at this; omega
  obtain ⟨hc1, hf1⟩ := bcell hb1
  clear hb1
  go_wp2_with fail
  refine (HB.out _ H1.out).mono ?_
  rintro e w2 ⟨rfl, hb2⟩
  have H2 := Lib.hid (H1.out.on hb2)
  have z2 : w.heap.size < w2.heap.size := by have := hb2.size; omega
  obtain ⟨hc2, hf2⟩ := bcell hb2
  clear hb2
  go_wp2_with fail
  refine (HC.out _ H2.out).mono ?_
  rintro e w3 ⟨rfl, hb3⟩
  have H3 := Lib.hid (H2.out.on hb3)
  have z3 : w.heap.size < w3.heap.size := by have := hb3.size; omega
  obtain ⟨hc3, hf3⟩ := bcell hb3
  clear hb3
  go_wp2_with fail
  refine (HD.out _ H3.out).mono ?_
  rintro e w4 ⟨rfl, hb4⟩
  have H4 := Lib.hid (H3.out.on hb4)
  clear hb4
  go_wp2
  go_ret2
  exact ⟨_, rfl, H4.out⟩
set_option maxRecDepth 100000 in
theorem plays_none (kind k1 n1 : Int) (s1 : ByteArray) (b1 : Bool) (k2 n2 : Int) (s2 : ByteArray) (b2 : Bool) (text : ByteArray) (N : Int) (last : ByteArray) (hk : kind < 1 ∨ 6 < kind) (W w : World) (hw : Ok W w) : Calls Tryd.prog 27 #[.agg #[.int .i64 kind, .int .i64 k1, .int .i64 n1, .string s1, .bool b1, .int .i64 k2, .int .i64 n2, .string s2, .bool b2, .string text, .int .i64 N], .string last] w (Played W) := by
  have e1 : (kind == 1) = false := by simp; omega
  have e2 : (kind == 2) = false := by simp; omega
  have e3 : (kind == 3) = false := by simp; omega
  have e4 : (kind == 4) = false := by simp; omega
  have e5 : (kind == 5) = false := by simp; omega
  have e6 : (kind == 6) = false := by simp; omega
  have HW := Lib.hid hw
  clear hw
  go_enter Tryd.func27, Tryd.ntmps27
  go_wp2
  go_ret2
  exact ⟨_, rfl, HW.out.alloc _⟩
theorem plays_ok (kind k1 n1 : Int) (s1 : ByteArray) (b1 : Bool) (k2 n2 : Int) (s2 : ByteArray) (b2 : Bool) (text : ByteArray) (N : Int) (last : ByteArray) (hn : I64 n1) (hz : s1.size ≤ maxLen) (W w : World) (hw : Ok W w) : Calls Tryd.prog 27 #[.agg #[.int .i64 kind, .int .i64 k1, .int .i64 n1, .string s1, .bool b1, .int .i64 k2, .int .i64 n2, .string s2, .bool b2, .string text, .int .i64 N], .string last] w (Played W) := by
  by_cases h0 : kind < 1 ∨ 6 < kind
  · exact plays_none _ _ _ _ _ _ _ _ _ _ _ _ h0 W w hw
  · have hc : kind = 1 ∨ kind = 2 ∨ kind = 3 ∨ kind = 4 ∨ kind = 5 ∨ kind = 6 := by omega
    rcases hc with h | h | h | h | h | h
    · exact plays_show _ _ _ _ _ _ _ _ _ _ _ _ h hn W w hw
    · exact plays_read _ _ _ _ _ _ _ _ _ _ _ _ h W w hw
    · exact plays_compare _ _ _ _ _ _ _ _ _ _ _ _ h hz W w hw
    · exact plays_binary _ _ _ _ _ _ _ _ _ _ _ _ h hz W w hw
    · exact plays_unary _ _ _ _ _ _ _ _ _ _ _ _ h W w hw
    · exact plays_back _ _ _ _ _ _ _ _ _ _ _ _ h W w hw
end Go.Proofs.YtcjibjiojgikjaaDoor.lawScript
