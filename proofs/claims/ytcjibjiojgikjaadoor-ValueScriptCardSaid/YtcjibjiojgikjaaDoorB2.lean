/- The contracts of package value as the laws use them: a world that is fit stays fit. And the laws' helper 'of'. -/
import Derived.Test.YtcjibjiojgikjaaDoorB1
import Derived.WalkKit
import Derived.WalkSpells
import Derived.WalkLawsBesides
import Derived.Lib.Hide
import Derived.BigQuiet
import Derived.Deep.QuietTactic
namespace Go.Proofs.YtcjibjiojgikjaaDoor
open Go Go.RowKit
set_option maxHeartbeats 400000
set_option linter.unusedVariables false
set_option linter.unusedSimpArgs false
/-- w is what w0 has become: nothing that was there has turned, and the calls may go on -/
structure Ok (w0 w : World) : Prop where
  inv : Inv w
  below : Below w0.heap.size w0 w
theorem Ok.start {w : World} (h : Inv w) : Ok w w := ⟨h, Below.refl _ _⟩
theorem Ok.on {w0 w w' : World} (h : Ok w0 w) (hb : Below w.heap.size w w') : Ok w0 w' := ⟨h.inv.below hb, h.below.trans (hb.mono h.below.size)⟩
theorem Ok.alloc {w0 w : World} (h : Ok w0 w) (o : Obj) : Ok w0 (w.alloc o) := h.on ((Below.refl _ _).alloc (Nat.le_refl _) o)
theorem Ok.drew {w0 w : World} (h : Ok w0 w) : Ok w0 w.drew := h.on (Below.refl _ _).drew
theorem Ok.drewN {w0 w : World} (h : Ok w0 w) (n : Nat) : Ok w0 (w.drewN n) := h.on (below_drewN (Below.refl _ _) n)
theorem of_E (op a b : Int) (hop : 3 ≤ op ∧ op ≤ 5) : binE op 1 a ⟨#[]⟩ false 1 b ⟨#[]⟩ false = 0 := by
  unfold binE
  rw [if_neg (by omega), if_pos ⟨valid_mk1 _, valid_mk1 _⟩]
  have : op = 3 ∨ op = 4 ∨ op = 5 := by omega
  rcases this with rfl | rfl | rfl <;> exact if_neg (by decide)
theorem of_bin (op a b : Int) (hop : 3 ≤ op ∧ op ≤ 5) (w : World) (h : Inv w) : Calls Tryd.prog 20 #[.int .i64 op, .agg #[.int .i64 1, .int .i64 a, .string ⟨#[]⟩, .bool false], .agg #[.int .i64 1, .int .i64 b, .string ⟨#[]⟩, .bool false]] w
    fun e w' => e = .returned (.tuple #[.agg #[.int .i64 1, .int .i64 (reckonI op a b), .string ⟨#[]⟩, .bool false], .int .i64 0]) ∧ Below w.heap.size w w' := by
  have := binary_any w h.rules op 1 a ⟨#[]⟩ false 1 b ⟨#[]⟩ false
  have e : binV op 1 a ⟨#[]⟩ false 1 b ⟨#[]⟩ false = (1, reckonI op a b, ⟨#[]⟩, false) := by
    unfold binV
    rw [if_pos (of_E op a b hop), if_pos (by omega)]
  rw [e, of_E op a b hop] at this
  exact this
theorem of_any (op a b : Int) (hop : 3 ≤ op ∧ op ≤ 5) (w0 w : World) (h : Ok w0 w) : Calls Tryd.prog 17 #[.int .i64 op, .int .i64 a, .int .i64 b] w
    fun e w' => e = .returned (.tuple #[.int .i64 (reckonI op a b), .bool true]) ∧ Ok w0 w' := by
  have H := Lib.hid h
  clear h
  go_enter Tryd.func17, Tryd.ntmps17
  go_wp2_with fail
  refine (of_bin _ _ _ hop _ H.out.inv).mono ?_
  rintro e w1 ⟨rfl, hb1⟩
  have H1 := Lib.hid (H.out.on hb1)
  go_wp2_with fail
  go_quiet (fail)
  go_wp2
  go_ret2
  exact ⟨rfl, (H1.out.alloc _).drewN _⟩
theorem un_neg (a : Int) (w0 w : World) (h : Ok w0 w) : Calls Tryd.prog 18 #[.int .i64 1, .agg #[.int .i64 1, .int .i64 a, .string ⟨#[]⟩, .bool false]] w
    fun e w' => e = .returned (.tuple #[.agg #[.int .i64 1, .int .i64 (reckonI 4 0 a), .string ⟨#[]⟩, .bool false], .int .i64 0]) ∧ Ok w0 w' := by
  have := unary_any w h.inv.rules 1 1 a ⟨#[]⟩ false
  have hE : unE 1 1 a ⟨#[]⟩ false = 0 := by
    unfold unE
    rw [if_pos (.inl rfl), if_pos (valid_mk1 _), if_neg (by decide)]
  have e : unV 1 1 a ⟨#[]⟩ false = (1, reckonI 4 0 a, ⟨#[]⟩, false) := by
    unfold unV
    rw [if_pos hE, if_pos rfl]
    unfold reckonI
    rw [if_pos (by omega)]
  rw [e, hE] at this
  exact this.mono fun _ _ ⟨h1, h2⟩ => ⟨h1, h.on h2⟩
theorem begun_ok (w0 w : World) (h : Ok w0 w) : Calls Tryd.prog 11 #[] w fun e w' => e = .returned (.bool true) ∧ Ok w0 w' :=
  (begun_any w h.inv).mono fun _ _ ⟨h1, h2⟩ => ⟨h1, h.on h2⟩
end Go.Proofs.YtcjibjiojgikjaaDoor
