/- Contracts of the laws' helpers 'yes' and 'ordered'; the order of values: plain facts. -/
import Derived.Test.YtcjibjiojgikjaaDoorN2
import Derived.Sort.Walk0
import Derived.WalkKit
import Derived.WalkSpells
import Derived.WalkLawsBesides
import Derived.Lib.Hide
namespace Go.Proofs.YtcjibjiojgikjaaDoor
open Go Go.RowKit
set_option maxHeartbeats 400000
set_option linter.unusedVariables false
set_option linter.unusedSimpArgs false
attribute [local go_sem ↓] run_eql_V run_neq_V
/-- Binary answers the truth value r -/
def BinIs (op k n : Int) (s : ByteArray) (b : Bool) (k' n' : Int) (s' : ByteArray) (b' : Bool) (r : Bool) : Prop := binE op k n s b k' n' s' b' = 0 ∧ binV op k n s b k' n' s' b' = (3, 0, ⟨#[]⟩, r)
theorem bin_is {op k n : Int} {s : ByteArray} {b : Bool} {k' n' : Int} {s' : ByteArray} {b' : Bool} {r : Bool} (h : BinIs op k n s b k' n' s' b' r) (w0 w : World) (hw : Ok w0 w) :
    Calls Tryd.prog 20 #[.int .i64 op, .agg #[.int .i64 k, .int .i64 n, .string s, .bool b], .agg #[.int .i64 k', .int .i64 n', .string s', .bool b']] w
    fun e w' => e = .returned (.tuple #[.agg #[.int .i64 3, .int .i64 0, .string ⟨#[]⟩, .bool r], .int .i64 0]) ∧ Below w.heap.size w w' := by
  have := binary_any w hw.inv.rules op k n s b k' n' s' b'
  rw [h.1, h.2] at this
  exact this
theorem yes_any (op k n : Int) (s : ByteArray) (b : Bool) (k' n' : Int) (s' : ByteArray) (b' r : Bool) (h : BinIs op k n s b k' n' s' b' r) (w0 w : World) (hw : Ok w0 w) :
    Calls Tryd.prog 19 #[.int .i64 op, .agg #[.int .i64 k, .int .i64 n, .string s, .bool b], .agg #[.int .i64 k', .int .i64 n', .string s', .bool b'], .bool r] w
    fun e w' => e = .returned (.bool true) ∧ Ok w0 w' := by
  have q1 : veq 3 0 ⟨#[]⟩ r 3 0 ⟨#[]⟩ r = true := veq_self _ _ _ _
  have H := Lib.hid h
  have HW := Lib.hid hw
  clear h hw
  go_enter Tryd.func19, Tryd.ntmps19
  go_wp2_with fail
  refine (bin_is H.out w0 _ ((HW.out.alloc _).alloc _)).mono ?_
  rintro e w1 ⟨rfl, hb1⟩
  have H1 := Lib.hid (((HW.out.alloc _).alloc _).on hb1)
  go_wp2
  go_ret
  exact ⟨rfl, H1.out.alloc _⟩
theorem compare_ok (k n : Int) (s : ByteArray) (b : Bool) (k' n' : Int) (s' : ByteArray) (b' : Bool) (c : Int) (hc : cmpV k n s b k' n' s' b' = c) (w0 w : World) (hw : Ok w0 w) :
    Calls Tryd.prog 15 #[.agg #[.int .i64 k, .int .i64 n, .string s, .bool b], .agg #[.int .i64 k', .int .i64 n', .string s', .bool b']] w fun e w' => e = .returned (.int .i64 c) ∧ Ok w0 w' := by
  subst hc
  exact (compare_any k n s b k' n' s' b' w).mono fun _ _ ⟨h1, h2⟩ => ⟨h1, hw.on h2⟩
theorem valid_ok (k n : Int) (s : ByteArray) (b : Bool) (w0 w : World) (hw : Ok w0 w) :
    Calls Tryd.prog 13 #[.agg #[.int .i64 k, .int .i64 n, .string s, .bool b]] w fun e w' => e = .returned (.bool (valid k n s b)) ∧ Ok w0 w' :=
  (valid_any k n s b w).mono fun _ _ ⟨h1, h2⟩ => ⟨h1, hw.on h2⟩
/-- the six relations of two values of one kind that are ordered so -/
def Rels (k n : Int) (s : ByteArray) (b : Bool) (k' n' : Int) (s' : ByteArray) (b' : Bool) (c : Int) : Prop := ∀ op r, 6 ≤ op → op ≤ 11 → r = holdsB op c → BinIs op k n s b k' n' s' b' r
theorem rels_of {k n : Int} {s : ByteArray} {b : Bool} {n' : Int} {s' : ByteArray} {b' : Bool} (hv : valid k n s b = true) (hv' : valid k n' s' b' = true) (hk : k ≠ 3) : Rels k n s b k n' s' b' (cmpV k n s b k n' s' b') := by
  intro op r h6 h11 hr
  have hE : binE op k n s b k n' s' b' = 0 := by
    unfold binE
    rw [if_neg (by omega), if_pos ⟨hv, hv'⟩]
    have ho : op = 6 ∨ op = 7 ∨ op = 8 ∨ op = 9 ∨ op = 10 ∨ op = 11 := by omega
    rcases valid_kind hv with rfl | rfl | rfl
    · rcases ho with rfl | rfl | rfl | rfl | rfl | rfl <;> exact if_neg (by decide)
    · rcases ho with rfl | rfl | rfl | rfl | rfl | rfl <;> exact if_neg (by decide)
    · exact absurd rfl hk
  refine ⟨hE, ?_⟩
  unfold binV
  rw [if_pos hE, if_neg (by omega), if_pos h11, hr]
theorem ordered_at (k n : Int) (s : ByteArray) (b : Bool) (k' n' : Int) (s' : ByteArray) (b' : Bool) (c : Int) (hm : c = -1 ∨ c = 0 ∨ c = 1) (hc : cmpV k n s b k' n' s' b' = c) (hr : Rels k n s b k' n' s' b' c) (w0 w : World) (hw : Ok w0 w) :
    Calls Tryd.prog 16 #[.agg #[.int .i64 k, .int .i64 n, .string s, .bool b], .agg #[.int .i64 k', .int .i64 n', .string s', .bool b']] w fun e w' => e = .returned (.bool true) ∧ Ok w0 w' := by
  have HC := Lib.hid hc
  have HR := Lib.hid hr
  have HW := Lib.hid hw
  clear hc hr hw
  have hI : Inv ((w.alloc (Obj.cells #[.int .i64 k, .int .i64 n, .string s, .bool b] 29)).alloc (Obj.cells #[.int .i64 k', .int .i64 n', .string s', .bool b'] 29)) := ((HW.out.alloc _).alloc _).inv
  obtain ⟨W, eW⟩ : ∃ W, W = ((w.alloc (Obj.cells #[.int .i64 k, .int .i64 n, .string s, .bool b] 29)).alloc (Obj.cells #[.int .i64 k', .int .i64 n', .string s', .bool b'] 29)) := ⟨_, rfl⟩
  have EW := Lib.hid eW
  have h0 : Ok W W := Ok.start (by rw [eW]; exact hI)
  have H0 : Hid (Ok W ((w.alloc (Obj.cells #[.int .i64 k, .int .i64 n, .string s, .bool b] 29)).alloc (Obj.cells #[.int .i64 k', .int .i64 n', .string s', .bool b'] 29))) := by show Ok _ _; rw [← eW]; exact h0
  have cells : ∀ j : Nat, W.cell? ⟨w.heap.size, j, none⟩ = ((w.alloc (Obj.cells #[.int .i64 k, .int .i64 n, .string s, .bool b] 29)).alloc (Obj.cells #[.int .i64 k', .int .i64 n', .string s', .bool b'] 29)).cell? ⟨w.heap.size, j, none⟩ := fun j => by rw [eW]
  have cells' : ∀ j : Nat, W.cell? ⟨w.heap.size + 1, j, none⟩ = ((w.alloc (Obj.cells #[.int .i64 k, .int .i64 n, .string s, .bool b] 29)).alloc (Obj.cells #[.int .i64 k', .int .i64 n', .string s', .bool b'] 29)).cell? ⟨w.heap.size + 1, j, none⟩ := fun j => by rw [eW]
  have hsz : w.heap.size + 1 < W.heap.size := by rw [eW]; simp
  have hsz0 : w.heap.size < W.heap.size := by omega
  have HEND : Hid (∀ w', Ok W w' → Ok w0 w') := fun w' h => (show Ok w0 W by rw [EW.out]; exact (HW.out.alloc _).alloc _).on h.below
  clear h0 eW hI
  rcases hm with rfl | rfl | rfl
  all_goals
    go_enter Tryd.func16, Tryd.ntmps16
    go_wp2_with (first | (go_at_call 15; refine (compare_ok _ _ _ _ _ _ _ _ _ HC.out W _ H0.out).mono ?_; rintro e w' ⟨rfl, h⟩; have hcc := (bcell4 h.below).1) | (go_at_call 19; refine (yes_any _ _ _ _ _ _ _ _ _ _ (HR.out _ _ (by decide) (by decide) (by decide)) W _ (by assumption)).mono ?_; rintro e w' ⟨rfl, h⟩; have hcc := (bcell4 h.below).1))
    go_ret
    exact ⟨rfl, HEND.out _ (by assumption)⟩
end Go.Proofs.YtcjibjiojgikjaaDoor
