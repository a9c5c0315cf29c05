/- What two calls both answer: the program's and the document's own. -/
import Derived.Test.YtcjibjiojgikjaaDoorE14
import Derived.Test.YtcjibjiojgikjaaDoorE11
import Derived.Test.YtcjibjiojgikjaaDoorE7
import Derived.Test.YtcjibjiojgikjaaDoorE5
import Derived.Test.YtcjibjiojgikjaaDoorE1
import Derived.Test.YtcjibjiojgikjaaDoorO1
namespace Go.Proofs.YtcjibjiojgikjaaDoor
open Go Go.RowKit
set_option maxHeartbeats 400000
set_option linter.unusedVariables false
/-- a call answers this in every world that is fit -/
def Says (f : FuncId) (args : Array Value) (r : Value) (W : World) : Prop := ∀ w, Ok W w → Calls Tryd.prog f args w fun e w' => e = .returned r ∧ Below w.heap.size w w'
theorem both_valid (k n : Int) (s : ByteArray) (b : Bool) (W : World) : ∃ v : Bool, Says 13 #[.agg #[.int .i64 k, .int .i64 n, .string s, .bool b]] (.bool v) W ∧ Says 21 #[.agg #[.int .i64 k, .int .i64 n, .string s, .bool b]] (.bool v) W :=
  ⟨_, fun w hw => valid_any k n s b w, fun w hw => valid_r k n s b w⟩
theorem both_show (k n : Int) (s : ByteArray) (b : Bool) (hn : I64 n) (W : World) : ∃ (t : ByteArray) (E : Int), Says 12 #[.agg #[.int .i64 k, .int .i64 n, .string s, .bool b]] (.tuple #[.string t, .int .i64 E]) W ∧ Says 22 #[.agg #[.int .i64 k, .int .i64 n, .string s, .bool b]] (.tuple #[.string t, .int .i64 E]) W :=
  ⟨⟨(showT k n s b).toArray⟩, _, fun w hw => show_any k n s b hn w hw.inv.pow, fun w hw => show_r k n s b hn w⟩
theorem both_compare (k n : Int) (s : ByteArray) (b : Bool) (k' n' : Int) (s' : ByteArray) (b' : Bool) (hz : s.size ≤ maxLen) (W : World) :
    ∃ c : Int, Says 15 #[.agg #[.int .i64 k, .int .i64 n, .string s, .bool b], .agg #[.int .i64 k', .int .i64 n', .string s', .bool b']] (.int .i64 c) W ∧ Says 24 #[.agg #[.int .i64 k, .int .i64 n, .string s, .bool b], .agg #[.int .i64 k', .int .i64 n', .string s', .bool b']] (.int .i64 c) W :=
  ⟨_, fun w hw => compare_any k n s b k' n' s' b' w, fun w hw => compare_r k n s b k' n' s' b' hz w⟩
theorem both_binary (op k n : Int) (s : ByteArray) (b : Bool) (k' n' : Int) (s' : ByteArray) (b' : Bool) (hz : s.size ≤ maxLen) (W : World) :
    ∃ (K N : Int) (S : ByteArray) (T : Bool) (E : Int), Says 20 #[.int .i64 op, .agg #[.int .i64 k, .int .i64 n, .string s, .bool b], .agg #[.int .i64 k', .int .i64 n', .string s', .bool b']] (.tuple #[.agg #[.int .i64 K, .int .i64 N, .string S, .bool T], .int .i64 E]) W ∧ Says 25 #[.int .i64 op, .agg #[.int .i64 k, .int .i64 n, .string s, .bool b], .agg #[.int .i64 k', .int .i64 n', .string s', .bool b']] (.tuple #[.agg #[.int .i64 K, .int .i64 N, .string S, .bool T], .int .i64 E]) W :=
  ⟨_, _, _, _, _, fun w hw => binary_any w hw.inv.rules op k n s b k' n' s' b', fun w hw => binary_r op k n s b k' n' s' b' hz w⟩
theorem both_unary (op k n : Int) (s : ByteArray) (b : Bool) (W : World) :
    ∃ (K N : Int) (S : ByteArray) (T : Bool) (E : Int), Says 18 #[.int .i64 op, .agg #[.int .i64 k, .int .i64 n, .string s, .bool b]] (.tuple #[.agg #[.int .i64 K, .int .i64 N, .string S, .bool T], .int .i64 E]) W ∧ Says 26 #[.int .i64 op, .agg #[.int .i64 k, .int .i64 n, .string s, .bool b]] (.tuple #[.agg #[.int .i64 K, .int .i64 N, .string S, .bool T], .int .i64 E]) W :=
  ⟨_, _, _, _, _, fun w hw => unary_any w hw.inv.rules op k n s b, fun w hw => unary_r op k n s b w⟩
/-- what is read of a text -/
def Reads (l : List UInt8) (K N : Int) (S : ByteArray) (T : Bool) (E : Int) : Prop :=
  (E = 0 ∧ valid K N S T = true ∧ I64 N ∧ showT K N S T = l) ∨ (E = 12 ∧ K = 0 ∧ N = 0 ∧ S = ⟨#[]⟩ ∧ T = false ∧ ∀ k n s b, I64 n → valid k n s b = true → l ≠ showT k n s b)
theorem reads_some (l : List UInt8) : ∃ (K N : Int) (S : ByteArray) (T : Bool) (E : Int), Reads l K N S T E := by
  by_cases h : ∃ k n s b, I64 n ∧ valid k n s b = true ∧ l = showT k n s b
  · obtain ⟨k, n, s, b, h1, h2, h3⟩ := h
    exact ⟨k, n, s, b, 0, .inl ⟨rfl, h2, h1, h3.symm⟩⟩
  · exact ⟨0, 0, ⟨#[]⟩, false, 12, .inr ⟨rfl, rfl, rfl, rfl, rfl, fun k n s b h1 h2 h3 => h ⟨k, n, s, b, h1, h2, h3⟩⟩⟩
theorem both_read (t : ByteArray) (W : World) :
    ∃ (K N : Int) (S : ByteArray) (T : Bool) (E : Int), Says 14 #[.string t] (.tuple #[.agg #[.int .i64 K, .int .i64 N, .string S, .bool T], .int .i64 E]) W ∧ Says 23 #[.string t] (.tuple #[.agg #[.int .i64 K, .int .i64 N, .string S, .bool T], .int .i64 E]) W := by
  obtain ⟨K, N, S, T, E, h⟩ := reads_some t.data.toList
  refine ⟨K, N, S, T, E, fun w hw => (read_any t w hw.inv.errs hw.inv.pow).mono ?_, fun w hw => (read_r t w).mono ?_⟩
  · rintro e w' ⟨K', N', S', T', E', rfl, h2, h3⟩
    obtain ⟨rfl, rfl, rfl, rfl, rfl⟩ := read_same h h3
    exact ⟨rfl, h2⟩
  · rintro e w' ⟨K', N', S', T', E', rfl, h2, h3⟩
    obtain ⟨rfl, rfl, rfl, rfl, rfl⟩ := read_same h h3
    exact ⟨rfl, h2⟩
end Go.Proofs.YtcjibjiojgikjaaDoor
