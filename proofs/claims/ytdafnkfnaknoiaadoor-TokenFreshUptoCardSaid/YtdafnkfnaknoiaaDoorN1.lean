/- What the row's list of package-level variables gives: the library's errors and table; and a world in which the list is met. -/
import Derived.Test.YtdafnkfnaknoiaaDoorC6
import Derived.Test.YtdafnkfnaknoiaaDoorCards
import Derived.Test.YtdafnkfnaknoiaaDoorTie
import Derived.WalkKit
import Derived.ProofKit
import Derived.OpenShut
import Derived.Deep.DeepHandedRow
import Derived.Deep.DeepWitnessRowRef
import Derived.Lib.LaidTab
import Derived.Stop.LaidErr
namespace Go.Proofs.YtdafnkfnaknoiaaDoor
open Go Go.ChangeShapes Go.WideShapes Go.ChangeAt Go.RowKit
set_option maxHeartbeats 400000
set_option linter.unusedVariables false
set_option linter.unusedSimpArgs false
theorem own : ownKnob Tryd.prog.godebug = none := by kernel_rfl
theorem gType2 : (Tryd.prog.globals[2]?).map (·.type) = some 123 := by kernel_rfl
theorem gType3 : (Tryd.prog.globals[3]?).map (·.type) = some 104 := by kernel_rfl
theorem gType4 : (Tryd.prog.globals[4]?).map (·.type) = some 104 := by kernel_rfl
theorem cells123 : Tryd.prog.cellsOf 123 = 20 := by kernel_rfl
theorem cells109 : Tryd.prog.cellsOf 109 = 1 := by kernel_rfl
theorem iface_cells {H : Type} {enc : TypeId × Value → H} {w : World} {base : Nat} {sp : Nat → Bool} {held : Bool} {fuel : Nat} {cs : List Value} {nm : String} {d : DataW H} {p : List MemPlace}
    (h : DataW.trod enc Tryd.prog w base sp held fuel 104 cs = some (.iface nm d, p)) : ∃ u v, cs[0]? = some (.iface u v) := by
  cases fuel with
  | zero => simp [DataW.trod] at h
  | succ fuel =>
    simp only [DataW.trod, Tryd.underlying104] at h
    split at h
    all_goals first | (exact ⟨_, _, rfl⟩) | simp_all
theorem errs_of_laid {W : World} (h0 : laidMetH Tryd.prog Rows.tokenLimitsRow.laid W) : Errs W := by
  have h : laidMet Tryd.prog Rows.tokenLimitsRow.laid W := h0
  have hpow := Lib.tabIs_of_head (k := .u64) (zs := Lib.pow10Tab) (g := 2) (by kernel_rfl) gType2 (Tryd.underlying123) Tryd.underlying109 cells109 cells123 h.tail.tail
  obtain ⟨_, ⟨g, t, cs, fuel, p, q, hg, ht, hvar, hd, _, _⟩, _⟩ := h.tail.tail.tail
  obtain ⟨_, ⟨g', t', cs', fuel', p', q', hg', ht', hvar', hd', _, _⟩, _⟩ := h.tail.tail.tail.tail
  obtain rfl : g = 4 := Option.some.inj (hg.symm.trans (by kernel_rfl))
  obtain rfl : g' = 3 := Option.some.inj (hg'.symm.trans (by kernel_rfl))
  obtain rfl : t = 104 := Option.some.inj (ht.symm.trans gType4)
  obtain rfl : t' = 104 := Option.some.inj (ht'.symm.trans gType3)
  obtain ⟨u, v, e4⟩ := iface_cells hd
  obtain ⟨u', v', e3⟩ := iface_cells hd'
  have c4 : W.cell? ⟨4, 0, none⟩ = some (.iface u v) := (World.var?_cell hg hvar 0).trans (by rw [← Array.getElem?_toList]; exact e4)
  have c3 : W.cell? ⟨3, 0, none⟩ = some (.iface u' v') := (World.var?_cell hg' hvar' 0).trans (by rw [← Array.getElem?_toList]; exact e3)
  have l4 := lt_of_cell c4
  exact ⟨⟨l4, ⟨_, _, c3⟩, ⟨_, _, c4⟩⟩, hpow⟩

/-! ### A world in which the list is met -/
abbrev synS : ByteArray := { data := #[105, 110, 118, 97, 108, 105, 100, 32, 115, 121, 110, 116, 97, 120] }
abbrev rngS : ByteArray := { data := #[118, 97, 108, 117, 101, 32, 111, 117, 116, 32, 111, 102, 32, 114, 97, 110, 103, 101] }
noncomputable def low : Nat := (World.holding Tryd.prog default ⟨#[], #[], []⟩).heap.size
/-- block k's cells are these -/
def put (k : Nat) (cs : Array Value) (h : Array Obj) : Array Obj := h.modify k fun
  | .cells _ t frozen => .cells cs t frozen
  | o => o
/-- The settled world with two blocks more, each an errors.errorString, and the listed variables holding what their initialisers lay. -/
noncomputable def laidWorld (os : Os) : World :=
  let w0 := World.holding Tryd.prog os ⟨#[.cells #[.string synS] 142, .cells #[.string rngS] 142], #[], []⟩
  { w0 with heap := put 0 #[.string ⟨#[80, 65, 84, 84, 69, 82, 78]⟩, .string ⟨#[83, 69, 81]⟩, .string ⟨#[80, 65, 82, 84, 73, 84, 73, 79, 78]⟩, .string ⟨#[66, 89]⟩, .string ⟨#[87, 72, 69, 82, 69]⟩, .string ⟨#[87, 73, 84, 72, 73, 78]⟩, .string ⟨#[82, 69, 84, 85, 82, 78]⟩, .string ⟨#[65, 78, 68]⟩, .string ⟨#[79, 82]⟩, .string ⟨#[78, 79, 84]⟩, .string ⟨#[84, 82, 85, 69]⟩, .string ⟨#[70, 65, 76, 83, 69]⟩, .string ⟨#[84, 89, 80, 69]⟩, .string ⟨#[73, 78, 84]⟩, .string ⟨#[83, 84, 82]⟩, .string ⟨#[66, 79, 79, 76]⟩] (put 2 #[.int .u64 1, .int .u64 10, .int .u64 100, .int .u64 1000, .int .u64 10000, .int .u64 100000, .int .u64 1000000, .int .u64 10000000, .int .u64 100000000, .int .u64 1000000000, .int .u64 10000000000, .int .u64 100000000000, .int .u64 1000000000000, .int .u64 10000000000000, .int .u64 100000000000000, .int .u64 1000000000000000, .int .u64 10000000000000000, .int .u64 100000000000000000, .int .u64 1000000000000000000, .int .u64 10000000000000000000] (put 3 #[.iface 140 (.pointer (some ⟨low, 0, none⟩))] (put 4 #[.iface 140 (.pointer (some ⟨low + 1, 0, none⟩))] (put 5 #[.int .u8 0, .int .u8 1, .int .u8 28, .int .u8 2, .int .u8 29, .int .u8 14, .int .u8 24, .int .u8 3, .int .u8 30, .int .u8 22, .int .u8 20, .int .u8 15, .int .u8 25, .int .u8 17, .int .u8 4, .int .u8 8, .int .u8 31, .int .u8 27, .int .u8 13, .int .u8 23, .int .u8 21, .int .u8 19, .int .u8 16, .int .u8 7, .int .u8 26, .int .u8 12, .int .u8 18, .int .u8 6, .int .u8 11, .int .u8 5, .int .u8 10, .int .u8 9] (put 6 #[.int .u8 0, .int .u8 1, .int .u8 56, .int .u8 2, .int .u8 57, .int .u8 49, .int .u8 28, .int .u8 3, .int .u8 61, .int .u8 58, .int .u8 42, .int .u8 50, .int .u8 38, .int .u8 29, .int .u8 17, .int .u8 4, .int .u8 62, .int .u8 47, .int .u8 59, .int .u8 36, .int .u8 45, .int .u8 43, .int .u8 51, .int .u8 22, .int .u8 53, .int .u8 39, .int .u8 33, .int .u8 30, .int .u8 24, .int .u8 18, .int .u8 12, .int .u8 5, .int .u8 63, .int .u8 55, .int .u8 48, .int .u8 27, .int .u8 60, .int .u8 41, .int .u8 37, .int .u8 16, .int .u8 46, .int .u8 35, .int .u8 44, .int .u8 21, .int .u8 52, .int .u8 32, .int .u8 23, .int .u8 11, .int .u8 54, .int .u8 26, .int .u8 40, .int .u8 15, .int .u8 34, .int .u8 20, .int .u8 31, .int .u8 10, .int .u8 25, .int .u8 14, .int .u8 19, .int .u8 9, .int .u8 13, .int .u8 8, .int .u8 7, .int .u8 6] w0.heap))))) }
theorem laid_met (os : Os) (args : Array Value) : laidMet Tryd.prog Rows.tokenLimitsRow.laid ((laidWorld os).forCall (fun _ _ => 0) ⟨#[], args, []⟩).memory :=
  laidMet_of_run' 8 (by kernel_rfl) (by kernel_rfl)
end Go.Proofs.YtdafnkfnaknoiaaDoor
