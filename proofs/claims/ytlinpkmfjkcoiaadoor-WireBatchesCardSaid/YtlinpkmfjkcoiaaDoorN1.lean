/- What the row's list of package-level variables gives: the table of the kinds' words; and a world in which the list is met. -/
import Derived.Test.YtlinpkmfjkcoiaaDoorF3
import Derived.Test.YtlinpkmfjkcoiaaDoorCards
import Derived.Test.YtlinpkmfjkcoiaaDoorTie
import Derived.WalkKit
import Derived.ProofKit
import Derived.OpenShut
import Derived.Deep.DeepHandedRow
import Derived.Deep.DeepWitnessRowRef
import Derived.Lib.LaidTab
import Derived.Stop.LaidErr
namespace Go.Proofs.YtlinpkmfjkcoiaaDoor
open Go Go.ChangeShapes Go.WideShapes Go.ChangeAt Go.RowKit
set_option maxHeartbeats 400000
set_option linter.unusedVariables false
set_option linter.unusedSimpArgs false
theorem own : ownKnob Tryd.prog.godebug = none := by kernel_rfl
theorem gType0 : (Tryd.prog.globals[0]?).map (·.type) = some 129 := by kernel_rfl
theorem cellsW : Tryd.prog.cellsOf 129 = 4 := by kernel_rfl
theorem cellsS : Tryd.prog.cellsOf 9 = 1 := by kernel_rfl
theorem bytes_ext {a b : ByteArray} (h : a.data.toList = b.data.toList) : a = b := by
  cases a with | mk x => cases b with | mk y => exact congrArg ByteArray.mk (Array.toList_inj.1 h)
/-- the cells of the table -/
theorem words_cells {H : Type} {enc : TypeId × Value → H} {w : World} {base : Nat} {sp : Nat → Bool} {held : Bool} {fuel : Nat} {cs : List Value} {p : List MemPlace}
    (h : DataW.trod enc Tryd.prog w base sp held fuel 129 cs = some (Rows.laid_refrain_schema_kindWords, p)) :
    cs[0]? = some (.string ⟨#[]⟩) ∧ cs[1]? = some (.string ⟨#[73, 78, 84]⟩) ∧ cs[2]? = some (.string ⟨#[83, 84, 82]⟩) ∧ cs[3]? = some (.string ⟨#[66, 79, 79, 76]⟩) := by
  cases fuel with
  | zero => simp [DataW.trod] at h
  | succ fuel =>
    simp only [DataW.trod, Tryd.underlying129, cellsW, cellsS] at h
    split at h
    · obtain ⟨xs, hm, hx⟩ := Option.map_eq_some_iff.1 h
      have hxs : (DataW.agg (xs.map (·.1)) : DataW H) = Rows.laid_refrain_schema_kindWords := congrArg Prod.fst hx
      have each : ∀ (o : Nat) (ho : o < 4) (l : List UInt8) (b : ByteArray), b.data.toList = l → (∀ L : List (DataW H), (Rows.laid_refrain_schema_kindWords : DataW H) = .agg L → L[o]? = some (.lit (.string l))) → cs[o]? = some (.string b) := by
        intro o ho l b hb hL
        obtain ⟨y, hy, hf⟩ := Lib.mapM_at hm o o (by simp [ho])
        obtain ⟨d, q⟩ := y
        have h1 := hL _ hxs.symm
        rw [List.getElem?_map, hy] at h1
        simp only [Option.map_some, Option.some.injEq] at h1
        obtain ⟨s, e1, e2, _⟩ := DataW.trod_string Tryd.underlying9 hf
        have e3 := congrArg Prod.fst e2
        simp only at e3
        rw [h1] at e3
        injection e3 with e3
        injection e3 with e3
        have : s = b := bytes_ext (by rw [hb]; exact e3.symm)
        subst this
        have := congrArg (·[0]?) e1
        simp only [List.getElem?_take, List.getElem?_drop, List.getElem?_cons_zero] at this
        simpa using this
      refine ⟨each 0 (by omega) [] _ rfl ?_, each 1 (by omega) [73, 78, 84] _ rfl ?_, each 2 (by omega) [83, 84, 82] _ rfl ?_, each 3 (by omega) [66, 79, 79, 76] _ rfl ?_⟩
      all_goals
        intro L hL
        injection hL with hL
        rw [← hL]
        rfl
    · cases h
theorem kw_of_laid {W : World} (h0 : laidMetH Tryd.prog Rows.wireIntsRow.laid W) : Kw W := by
  have h : laidMet Tryd.prog Rows.wireIntsRow.laid W := h0
  obtain ⟨_, ⟨g, t, cs, fuel, p, q, hg, ht, hvar, hd, _, _⟩, _⟩ := h
  obtain rfl : g = 0 := Option.some.inj (hg.symm.trans (by kernel_rfl))
  obtain rfl : t = 129 := Option.some.inj (ht.symm.trans gType0)
  obtain ⟨e0, e1, e2, e3⟩ := words_cells hd
  have c : ∀ i v, cs.toList[i]? = some v → W.cell? ⟨0, i, none⟩ = some v := fun i v hi => (World.var?_cell hg hvar i).trans (by rw [← Array.getElem?_toList]; exact hi)
  have c0 := c 0 _ e0
  exact ⟨lt_of_cell c0, c0, c 1 _ e1, c 2 _ e2, c 3 _ e3⟩

/-! ### A world in which the list is met -/
/-- block k's cells are these -/
def putBlock (k : Nat) (cs : Array Value) (h : Array Obj) : Array Obj := h.modify k fun
  | .cells _ t frozen => .cells cs t frozen
  | o => o
/-- The settled world, the listed variable holding what its initialiser lays. -/
noncomputable def laidWorld (os : Os) : World :=
  let w0 := World.holding Tryd.prog os ⟨#[], #[], []⟩
  { w0 with heap := putBlock 0 #[.string ⟨#[]⟩, .string ⟨#[73, 78, 84]⟩, .string ⟨#[83, 84, 82]⟩, .string ⟨#[66, 79, 79, 76]⟩] w0.heap }
theorem laid_met (os : Os) (args : Array Value) : laidMet Tryd.prog Rows.wireIntsRow.laid ((laidWorld os).forCall (fun _ _ => 0) ⟨#[], args, []⟩).memory :=
  laidMet_of_run' 8 (by kernel_rfl) (by kernel_rfl)
end Go.Proofs.YtlinpkmfjkcoiaaDoor
