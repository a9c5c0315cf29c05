/- What the row's list of package-level variables asks: a world in which it is met; the library's bound of a search. -/
import Derived.WalkKit
import Derived.ProofKit
import Derived.OpenShut
import Derived.Deep.DeepHandedRow
import Derived.Deep.DeepWitnessRowRef
import Derived.Lib.LaidTab
import Derived.Stop.LaidErr
import Derived.Shelf.Vars
import Derived.Carry
import Derived.Test.YtkficmbkoinjjaaGreatDoorB1
import Derived.Test.YtkficmbkoinjjaaGreatDoorCards
import Derived.Test.YtkficmbkoinjjaaGreatDoorTie
import Derived.Test.YtkficmbkoinjjaaGreatDoorE2
namespace Go.Proofs.YtkficmbkoinjjaaGreatDoor
open Go Go.ChangeShapes Go.WideShapes Go.ChangeAt Go.RowKit
set_option maxHeartbeats 400000
set_option linter.unusedVariables false
set_option linter.unusedSimpArgs false
theorem own : ownKnob Tryz.prog.godebug = none := by kernel_rfl
/-- block k's cells are these -/
def putBlock (k : Nat) (cs : Array Value) (h : Array Obj) : Array Obj := h.modify k fun
  | .cells _ t frozen => .cells cs t frozen
  | o => o
def u8s (l : List Int) : Array Value := (l.map fun n => Value.int .u8 n).toArray
theorem mx_of_shape {W : World} (h : W.ShapedOpen Tryz.prog) : Mx W := cell_of_shapedOpen_int (g := 0) (t := 3) (zero := #[.int .i64 0]) h (of_decide_eq_true (by kernel_rfl)) (by kernel_rfl) rfl (by kernel_rfl) (by kernel_rfl) Tryz.underlying3
end Go.Proofs.YtkficmbkoinjjaaGreatDoor
/- The laws' last step: a law that returned true, and below the heap's old size nothing has turned: what its row asks behind the call. -/
namespace Go.Proofs.YtkficmbkoinjjaaGreatDoor
open Go Go.ChangeShapes Go.WideShapes Go.ChangeAt Go.RowKit
set_option maxHeartbeats 400000
set_option linter.unusedVariables false
theorem laidOut : laidOutB Tryz.prog = true := by kernel_rfl
theorem args_below {H : Type} {enc : TypeId × Value → H} {W W' : World} (hb : Below W.heap.size W W') : ∀ (ts : List TypeId) (vs : List Value) (ds : List (DataW H)) (ps : List MemPlace),
    (∀ t ∈ ts, Tryz.prog.readableRec t = true ∧ t < Tryz.prog.types.size) → (∀ x ∈ ps, x.block < W.heap.size) → DataW.TrodAll enc Tryz.prog W 0 (fun _ => true) true ts vs ds ps →
    DataW.TrodAll enc Tryz.prog W' 0 (fun b => decide (b < W.heap.size)) true ts vs ds ps
  | [], vs, ds, ps, _, _, h => by
    obtain ⟨rfl, rfl, rfl⟩ := trodAll_nil h
    exact trodAll_mk0
  | t :: ts, vs, ds, ps, ht, hlt, h => by
    obtain ⟨v, vs', d, ds', p, q, rfl, rfl, rfl, h1, h2⟩ := trodAll_cons h
    have ht0 := ht t (by simp)
    exact trodAll_cons_mk (hb.trod laidOut ht0.1 ht0.2 h1 fun x hx => hlt x (List.mem_append_left _ hx))
      (args_below hb ts vs' ds' q (fun u hu => ht u (List.mem_cons_of_mem _ hu)) (fun x hx => hlt x (List.mem_append_right _ hx)) h2)
theorem law_post {H : Type} {enc : TypeId × Value → H} {f : Func} {s : ChangeSpec} {W W' : World} {args : Array Value} {ds gs : List (DataW H)} {before : List MemPlace}
    (hW : DataW.Whole enc Tryz.prog f.params.toList s.vars false W args.toList ds gs before) (hr : f.resultTypes.toList = [4]) (hr1 : f.resultTypes.size = 1) (hv : s.vars = [])
    (hts : ∀ t ∈ f.params.toList, Tryz.prog.readableRec t = true ∧ t < Tryz.prog.types.size)
    (hfn : s.fn H (ds ++ gs) = { results := [.lit (.bool true)], args := ds }) (hb : Below W.heap.size W W') :
    s.post enc Tryz.prog f false true false false W args (.bool true) W' := by
  have hlt : ∀ p ∈ before, p.block < W.heap.size := fun p hp => hW.lt p hp
  obtain ⟨p, q, hA, hV, hpq, hz, hn⟩ := hW
  have hq : gs = [] ∧ q = [] := by
    rw [hv] at hV
    exact trodVars_none hV
  obtain ⟨rfl, rfl⟩ := hq
  subst hpq
  have hltp : ∀ x ∈ p, x.block < W.heap.size := fun x hx => hlt x (by simpa using hx)
  refine ⟨ds, [], p ++ [], [], p, [], ⟨p, [], hA, hV, rfl, hz, hn⟩, ?_, ?_, ?_, ?_, fun h => by cases h⟩
  · rw [hr, hr1, hfn]
    exact trodAll_cons_mk (shut_bool Tryz.underlying4 true) trodAll_mk0
  · rw [hfn]
    exact args_below hb _ _ _ _ hts hltp hA
  · rw [hfn, hv]
    rfl
  · exact World.keptBut_mono (fun x hx => by
      refine ⟨by simpa using hx, Or.inr (Or.inl (by simpa using hx))⟩) (hb.frame (· ∈ p))
end Go.Proofs.YtkficmbkoinjjaaGreatDoor
/- What CsvCarries's list of package-level variables gives: the library's errors and table; a world in which the list is met. -/
namespace Go.Proofs.YtkficmbkoinjjaaGreatDoor
open Go Go.ChangeShapes Go.WideShapes Go.ChangeAt Go.RowKit
open V
set_option maxHeartbeats 400000
set_option linter.unusedVariables false
set_option linter.unusedSimpArgs false
theorem gType3 : (Tryz.prog.globals[3]?).map (·.type) = some 165 := by kernel_rfl
theorem gType4 : (Tryz.prog.globals[4]?).map (·.type) = some 127 := by kernel_rfl
theorem gType5 : (Tryz.prog.globals[5]?).map (·.type) = some 127 := by kernel_rfl
theorem cellsP : Tryz.prog.cellsOf 165 = 20 := by kernel_rfl
theorem cellsU : Tryz.prog.cellsOf 102 = 1 := by kernel_rfl
theorem iface_cells {H : Type} {enc : TypeId × Value → H} {w : World} {base : Nat} {sp : Nat → Bool} {held : Bool} {fuel : Nat} {cs : List Value} {nm : String} {d : DataW H} {p : List MemPlace}
    (h : DataW.trod enc Tryz.prog w base sp held fuel 127 cs = some (.iface nm d, p)) : ∃ u v, cs[0]? = some (.iface u v) := by
  cases fuel with
  | zero => simp [DataW.trod] at h
  | succ fuel =>
    simp only [DataW.trod, Tryz.underlying127] at h
    split at h
    all_goals first | (exact ⟨_, _, rfl⟩) | simp_all
theorem vv_of_laid {W : World} (h0 : laidMetH Tryz.prog Rows.csvEventsUptoRow.laid W) : Vv W := by
  have h : laidMet Tryz.prog Rows.csvEventsUptoRow.laid W := h0
  have hpow := Lib.tabIs_of_head (k := .u64) (zs := Lib.pow10Tab) (g := 3) (by kernel_rfl) gType3 (Tryz.underlying165) Tryz.underlying102 cellsU cellsP h.tail.tail
  obtain ⟨_, ⟨g, t, cs, fuel, p, q, hg, ht, hvar, hd, _, _⟩, _⟩ := h.tail.tail.tail.tail
  obtain ⟨_, ⟨g', t', cs', fuel', p', q', hg', ht', hvar', hd', _, _⟩, _⟩ := h.tail.tail.tail.tail.tail
  obtain rfl : g = 5 := Option.some.inj (hg.symm.trans (by kernel_rfl))
  obtain rfl : g' = 4 := Option.some.inj (hg'.symm.trans (by kernel_rfl))
  obtain rfl : t = 127 := Option.some.inj (ht.symm.trans gType5)
  obtain rfl : t' = 127 := Option.some.inj (ht'.symm.trans gType4)
  obtain ⟨u, v, e5⟩ := iface_cells hd
  obtain ⟨u', v', e4⟩ := iface_cells hd'
  have c5 : W.cell? ⟨5, 0, none⟩ = some (.iface u v) := (World.var?_cell hg hvar 0).trans (by rw [← Array.getElem?_toList]; exact e5)
  have c4 : W.cell? ⟨4, 0, none⟩ = some (.iface u' v') := (World.var?_cell hg' hvar' 0).trans (by rw [← Array.getElem?_toList]; exact e4)
  exact ⟨⟨lt_of_cell c5, ⟨_, _, c4⟩, ⟨_, _, c5⟩⟩, hpow⟩
abbrev synS : ByteArray := { data := #[105, 110, 118, 97, 108, 105, 100, 32, 115, 121, 110, 116, 97, 120] }
abbrev rngS : ByteArray := { data := #[118, 97, 108, 117, 101, 32, 111, 117, 116, 32, 111, 102, 32, 114, 97, 110, 103, 101] }
noncomputable def low : Nat := (World.holding Tryz.prog default ⟨#[], #[], []⟩).heap.size
/-- The settled world with two blocks more, each an errors.errorString, and the listed variables holding what their initialisers lay. -/
noncomputable def laidWorld (os : Os) : World :=
  let w0 := World.holding Tryz.prog os ⟨#[.cells #[.string synS] 178, .cells #[.string rngS] 178], #[], []⟩
  { w0 with heap := putBlock 2 (u8s [128, 191, 160, 191, 128, 159, 144, 191, 128, 143, 0, 0, 0, 0, 0, 0, 0, 0, 0, 0, 0, 0, 0, 0, 0, 0, 0, 0, 0, 0, 0, 0]) (putBlock 1 (u8s (Go.Pinned.utf8FirstZ.map fun n : Nat => (n : Int))) (putBlock 3 #[.int .u64 1, .int .u64 10, .int .u64 100, .int .u64 1000, .int .u64 10000, .int .u64 100000, .int .u64 1000000, .int .u64 10000000, .int .u64 100000000, .int .u64 1000000000, .int .u64 10000000000, .int .u64 100000000000, .int .u64 1000000000000, .int .u64 10000000000000, .int .u64 100000000000000, .int .u64 1000000000000000, .int .u64 10000000000000000, .int .u64 100000000000000000, .int .u64 1000000000000000000, .int .u64 10000000000000000000] (putBlock 4 #[.iface 176 (.pointer (some ⟨low, 0, none⟩))] (putBlock 5 #[.iface 176 (.pointer (some ⟨low + 1, 0, none⟩))] (putBlock 6 #[.int .u8 0, .int .u8 1, .int .u8 28, .int .u8 2, .int .u8 29, .int .u8 14, .int .u8 24, .int .u8 3, .int .u8 30, .int .u8 22, .int .u8 20, .int .u8 15, .int .u8 25, .int .u8 17, .int .u8 4, .int .u8 8, .int .u8 31, .int .u8 27, .int .u8 13, .int .u8 23, .int .u8 21, .int .u8 19, .int .u8 16, .int .u8 7, .int .u8 26, .int .u8 12, .int .u8 18, .int .u8 6, .int .u8 11, .int .u8 5, .int .u8 10, .int .u8 9] (putBlock 7 #[.int .u8 0, .int .u8 1, .int .u8 56, .int .u8 2, .int .u8 57, .int .u8 49, .int .u8 28, .int .u8 3, .int .u8 61, .int .u8 58, .int .u8 42, .int .u8 50, .int .u8 38, .int .u8 29, .int .u8 17, .int .u8 4, .int .u8 62, .int .u8 47, .int .u8 59, .int .u8 36, .int .u8 45, .int .u8 43, .int .u8 51, .int .u8 22, .int .u8 53, .int .u8 39, .int .u8 33, .int .u8 30, .int .u8 24, .int .u8 18, .int .u8 12, .int .u8 5, .int .u8 63, .int .u8 55, .int .u8 48, .int .u8 27, .int .u8 60, .int .u8 41, .int .u8 37, .int .u8 16, .int .u8 46, .int .u8 35, .int .u8 44, .int .u8 21, .int .u8 52, .int .u8 32, .int .u8 23, .int .u8 11, .int .u8 54, .int .u8 26, .int .u8 40, .int .u8 15, .int .u8 34, .int .u8 20, .int .u8 31, .int .u8 10, .int .u8 25, .int .u8 14, .int .u8 19, .int .u8 9, .int .u8 13, .int .u8 8, .int .u8 7, .int .u8 6] w0.heap)))))) }
theorem laid_met (os : Os) (args : Array Value) : laidMet Tryz.prog Rows.csvEventsUptoRow.laid ((laidWorld os).forCall (fun _ _ => 0) ⟨#[], args, []⟩).memory :=
  laidMet_of_run' 8 (by kernel_rfl) (by kernel_rfl)
theorem bulk_ge : ∀ C : List Cell, C.length ≤ (C.map fun c => c.length + 1).sum
  | [] => Nat.zero_le _
  | c :: t => by
    have := bulk_ge t
    simp only [List.map_cons, List.sum_cons, List.length_cons]
    omega
end Go.Proofs.YtkficmbkoinjjaaGreatDoor
