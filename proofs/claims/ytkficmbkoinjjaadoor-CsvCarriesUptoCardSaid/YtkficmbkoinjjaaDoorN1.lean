/- What the row's list of package-level variables asks: a world in which it is met; the library's bound of a search. -/
import Derived.Test.YtkficmbkoinjjaaDoorB1
import Derived.Test.YtkficmbkoinjjaaDoorCards
import Derived.Test.YtkficmbkoinjjaaDoorTie
import Derived.WalkKit
import Derived.ProofKit
import Derived.OpenShut
import Derived.Deep.DeepHandedRow
import Derived.Deep.DeepWitnessRowRef
import Derived.Lib.LaidTab
import Derived.Stop.LaidErr
import Derived.Shelf.Vars
namespace Go.Proofs.YtkficmbkoinjjaaDoor
open Go Go.ChangeShapes Go.WideShapes Go.ChangeAt Go.RowKit
set_option maxHeartbeats 400000
set_option linter.unusedVariables false
set_option linter.unusedSimpArgs false
theorem own : ownKnob Tryd.prog.godebug = none := by kernel_rfl
/-- block k's cells are these -/
def putBlock (k : Nat) (cs : Array Value) (h : Array Obj) : Array Obj := h.modify k fun
  | .cells _ t frozen => .cells cs t frozen
  | o => o
def u8s (l : List Int) : Array Value := (l.map fun n => Value.int .u8 n).toArray
/-- The settled world, the listed variables holding what their initialisers lay. -/
noncomputable def laidWorld (os : Os) : World :=
  let w0 := World.holding Tryd.prog os ⟨#[], #[], []⟩
  { w0 with heap := putBlock 2 (u8s [128, 191, 160, 191, 128, 159, 144, 191, 128, 143, 0, 0, 0, 0, 0, 0, 0, 0, 0, 0, 0, 0, 0, 0, 0, 0, 0, 0, 0, 0, 0, 0]) (putBlock 1 (u8s (Go.Pinned.utf8FirstZ.map fun n : Nat => (n : Int))) w0.heap) }
theorem laid_met (os : Os) (args : Array Value) : laidMet Tryd.prog Rows.csvSplitsRow.laid ((laidWorld os).forCall (fun _ _ => 0) ⟨#[], args, []⟩).memory :=
  laidMet_of_run' 8 (by kernel_rfl) (by kernel_rfl)
theorem mx_of_shape {W : World} (h : W.ShapedOpen Tryd.prog) : Mx W := cell_of_shapedOpen_int (g := 0) (t := 3) (zero := #[.int .i64 0]) h (of_decide_eq_true (by kernel_rfl)) (by kernel_rfl) rfl (by kernel_rfl) (by kernel_rfl) Tryd.underlying3
end Go.Proofs.YtkficmbkoinjjaaDoor
