/- An api.Value that is handed in: what reads as one, and what it reads as. -/
import Derived.Test.YtcjibjiojgikjaaDoorN2
import Derived.Lib.SmallJoins
import Derived.RowKit
namespace Go.Proofs.YtcjibjiojgikjaaDoor
open Go Go.ChangeShapes Go.WideShapes Go.ChangeAt Go.RowKit
set_option maxHeartbeats 400000
set_option linter.unusedVariables false
set_option maxRecDepth 100000 in
theorem open_value {H : Type} {enc : TypeId × Value → H} {w : World} {base : Nat} {spare : Nat → Bool} {held : Bool} {r : Reach} {b0 : Nat} {v : Value} {d : DataW H} {p : List MemPlace}
    (hv : Value.okWide Tryd.prog w r b0 29 v) (h : DataW.Trod enc Tryd.prog w base spare held 29 v d p) :
    ∃ (k n : Int) (s : ByteArray) (b : Bool), v = .agg #[.int .i64 k, .int .i64 n, .string s, .bool b] ∧ d = .agg [.lit (.int .i64 k), .lit (.int .i64 n), .lit (.string s.data.toList), .lit (.bool b)] ∧ p = [] ∧ I64 k ∧ I64 n ∧ s.size ≤ maxLen := by
  obtain ⟨v0, v1, v2, v3, y0, y1, y2, y3, m, rfl, rfl, rfl, h0, h1, h2, h3⟩ := Go.Joins.open_agg4 Tryd.underlying29 (by kernel_rfl) (by kernel_rfl) hv h
  obtain ⟨k, e0, rfl, w0⟩ := DataW.trod_int (k := .i64) (by kernel_rfl) h0
  obtain ⟨n, e1, rfl, w1⟩ := DataW.trod_int (k := .i64) (by kernel_rfl) h1
  obtain ⟨s, e2, rfl, hs⟩ := DataW.trod_string (by kernel_rfl) h2
  obtain ⟨b, e3, rfl⟩ := DataW.trod_bool (by kernel_rfl) h3
  obtain rfl : v0 = _ := by simpa using e0
  obtain rfl : v1 = _ := by simpa using e1
  obtain rfl : v2 = _ := by simpa using e2
  obtain rfl : v3 = _ := by simpa using e3
  exact ⟨k, n, s, b, rfl, rfl, rfl, i64_of_wf w0, i64_of_wf w1, hs⟩
/-- the zero value, as a witness hands it in -/
theorem value_ok : Tryd.prog.readableRec 29 = true ∧ 29 < Tryd.prog.types.size := ⟨by kernel_rfl, of_decide_eq_true (by kernel_rfl)⟩
end Go.Proofs.YtcjibjiojgikjaaDoor
