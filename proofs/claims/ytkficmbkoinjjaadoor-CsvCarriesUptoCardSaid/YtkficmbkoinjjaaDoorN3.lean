/- What CsvCarries's list of package-level variables gives: the library's errors and table; a world in which the list is met. -/
import Derived.Test.YtkficmbkoinjjaaDoorN2
import Derived.Test.YtkficmbkoinjjaaDoorE2
import Derived.Lib.LaidTab
import Derived.Stop.LaidErr
namespace Go.Proofs.YtkficmbkoinjjaaDoor
open Go Go.ChangeShapes Go.WideShapes Go.ChangeAt Go.RowKit
open V
set_option maxHeartbeats 400000
set_option linter.unusedVariables false
set_option linter.unusedSimpArgs false
theorem gType3 : (Tryd.prog.globals[3]?).map (·.type) = some 146 := by kernel_rfl
theorem gType4 : (Tryd.prog.globals[4]?).map (·.type) = some 101 := by kernel_rfl
theorem gType5 : (Tryd.prog.globals[5]?).map (·.type) = some 101 := by kernel_rfl
theorem cells146 : Tryd.prog.cellsOf 146 = 20 := by kernel_rfl
theorem cells131 : Tryd.prog.cellsOf 131 = 1 := by kernel_rfl
theorem iface_cells {H : Type} {enc : TypeId × Value → H} {w : World} {base : Nat} {sp : Nat → Bool} {held : Bool} {fuel : Nat} {cs : List Value} {nm : String} {d : DataW H} {p : List MemPlace}
    (h : DataW.trod enc Tryd.prog w base sp held fuel 101 cs = some (.iface nm d, p)) : ∃ u v, cs[0]? = some (.iface u v) := by
  cases fuel with
  | zero => simp [DataW.trod] at h
  | succ fuel =>
    simp only [DataW.trod, Tryd.underlying101] at h
    split at h
    all_goals first | (exact ⟨_, _, rfl⟩) | simp_all
theorem vv_of_laid {W : World} (h0 : laidMetH Tryd.prog Rows.csvCarriesUptoRow.laid W) : Vv W := by
  have h : laidMet Tryd.prog Rows.csvCarriesUptoRow.laid W := h0
  have hpow := Lib.tabIs_of_head (k := .u64) (zs := Lib.pow10Tab) (g := 3) (by kernel_rfl) gType3 (Tryd.underlying146) Tryd.underlying131 cells131 cells146 h.tail.tail
  obtain ⟨_, ⟨g, t, cs, fuel, p, q, hg, ht, hvar, hd, _, _⟩, _⟩ := h.tail.tail.tail.tail
  obtain ⟨_, ⟨g', t', cs', fuel', p', q', hg', ht', hvar', hd', _, _⟩, _⟩ := h.tail.tail.tail.tail.tail
  obtain rfl : g = 5 := Option.some.inj (hg.symm.trans (by kernel_rfl))
  obtain rfl : g' = 4 := Option.some.inj (hg'.symm.trans (by kernel_rfl))
  obtain rfl : t = 101 := Option.some.inj (ht.symm.trans gType5)
  obtain rfl : t' = 101 := Option.some.inj (ht'.symm.trans gType4)
  obtain ⟨u, v, e5⟩ := iface_cells hd
  obtain ⟨u', v', e4⟩ := iface_cells hd'
  have c5 : W.cell? ⟨5, 0, none⟩ = some (.iface u v) := (World.var?_cell hg hvar 0).trans (by rw [← Array.getElem?_toList]; exact e5)
  have c4 : W.cell? ⟨4, 0, none⟩ = some (.iface u' v') := (World.var?_cell hg' hvar' 0).trans (by rw [← Array.getElem?_toList]; exact e4)
  exact ⟨⟨lt_of_cell c5, ⟨_, _, c4⟩, ⟨_, _, c5⟩⟩, hpow⟩
abbrev synS : ByteArray := { data := #[105, 110, 118, 97, 108, 105, 100, 32, 115, 121, 110, 116, 97, 120] }
abbrev rngS : ByteArray := { data := #[118, 97, 108, 117, 101, 32, 111, 117, 116, 32, 111, 102, 32, 114, 97, 110, 103, 101] }
noncomputable def low : Nat := (World.holding Tryd.prog default ⟨#[], #[], []⟩).heap.size
/-- The settled world with two blocks more, each an errors.errorString, and the listed variables holding what their initialisers lay. -/
noncomputable def laidWorldC (os : Os) : World :=
  let w0 := World.holding Tryd.prog os ⟨#[.cells #[.string synS] 156, .cells #[.string rngS] 156], #[], []⟩
  { w0 with heap := putBlock 2 (u8s [128, 191, 160, 191, 128, 159, 144, 191, 128, 143, 0, 0, 0, 0, 0, 0, 0, 0, 0, 0, 0, 0, 0, 0, 0, 0, 0, 0, 0, 0, 0, 0]) (putBlock 1 (u8s (Go.Pinned.utf8FirstZ.map fun n : Nat => (n : Int))) (putBlock 3 #[.int .u64 1, .int .u64 10, .int .u64 100, .int .u64 1000, .int .u64 10000, .int .u64 100000, .int .u64 1000000, .int .u64 10000000, .int .u64 100000000, .int .u64 1000000000, .int .u64 10000000000, .int .u64 100000000000, .int .u64 1000000000000, .int .u64 10000000000000, .int .u64 100000000000000, .int .u64 1000000000000000, .int .u64 10000000000000000, .int .u64 100000000000000000, .int .u64 1000000000000000000, .int .u64 10000000000000000000] (putBlock 4 #[.iface 154 (.pointer (some ⟨low, 0, none⟩))] (putBlock 5 #[.iface 154 (.pointer (some ⟨low + 1, 0, none⟩))] (putBlock 6 #[.int .u8 0, .int .u8 1, .int .u8 28, .int .u8 2, .int .u8 29, .int .u8 14, .int .u8 24, .int .u8 3, .int .u8 30, .int .u8 22, .int .u8 20, .int .u8 15, .int .u8 25, .int .u8 17, .int .u8 4, .int .u8 8, .int .u8 31, .int .u8 27, .int .u8 13, .int .u8 23, .int .u8 21, .int .u8 19, .int .u8 16, .int .u8 7, .int .u8 26, .int .u8 12, .int .u8 18, .int .u8 6, .int .u8 11, .int .u8 5, .int .u8 10, .int .u8 9] (putBlock 7 #[.int .u8 0, .int .u8 1, .int .u8 56, .int .u8 2, .int .u8 57, .int .u8 49, .int .u8 28, .int .u8 3, .int .u8 61, .int .u8 58, .int .u8 42, .int .u8 50, .int .u8 38, .int .u8 29, .int .u8 17, .int .u8 4, .int .u8 62, .int .u8 47, .int .u8 59, .int .u8 36, .int .u8 45, .int .u8 43, .int .u8 51, .int .u8 22, .int .u8 53, .int .u8 39, .int .u8 33, .int .u8 30, .int .u8 24, .int .u8 18, .int .u8 12, .int .u8 5, .int .u8 63, .int .u8 55, .int .u8 48, .int .u8 27, .int .u8 60, .int .u8 41, .int .u8 37, .int .u8 16, .int .u8 46, .int .u8 35, .int .u8 44, .int .u8 21, .int .u8 52, .int .u8 32, .int .u8 23, .int .u8 11, .int .u8 54, .int .u8 26, .int .u8 40, .int .u8 15, .int .u8 34, .int .u8 20, .int .u8 31, .int .u8 10, .int .u8 25, .int .u8 14, .int .u8 19, .int .u8 9, .int .u8 13, .int .u8 8, .int .u8 7, .int .u8 6] w0.heap)))))) }
theorem laid_metC (os : Os) (args : Array Value) : laidMet Tryd.prog Rows.csvCarriesUptoRow.laid ((laidWorldC os).forCall (fun _ _ => 0) ⟨#[], args, []⟩).memory :=
  laidMet_of_run' 8 (by kernel_rfl) (by kernel_rfl)
theorem bulk_ge : ∀ C : List Cell, C.length ≤ (C.map fun c => c.length + 1).sum
  | [] => Nat.zero_le _
  | c :: t => by
    have := bulk_ge t
    simp only [List.map_cons, List.sum_cons, List.length_cons]
    omega
end Go.Proofs.YtkficmbkoinjjaaDoor
