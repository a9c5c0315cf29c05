/- Package schema's catalog: what a look at its map, and a store into it, do. -/
import Derived.Test.YtpfpganlghjhjaaDoorA6
import Derived.WideMake
import Derived.MapKept
namespace Go.Proofs.YtpfpganlghjhjaaDoor
open Go Go.RowKit
set_option maxHeartbeats 2000000
set_option linter.unusedVariables false
set_option linter.unusedSimpArgs false
/-- the world with that map in that block -/
def upd (w : World) (mB : Nat) (es : Array MapEntry) (clock : Nat) : World := { w with heap := w.heap.setIfInBounds mB (.map es clock) }
def zeroT : Value := .agg #[.string ⟨#[]⟩, .slice none 0 0]
theorem zero27 (w : World) : (zeroValue 27).run Tryd.prog w = .ok (.agg #[.string ⟨#[]⟩, .slice none 0 0]) w := by kernel_rfl
/-- what is found under a name -/
def Found (es : Array MapEntry) (s : ByteArray) (r : Option (Nat × Value)) : Prop := Instr.findNow .string (.string s) es.toList 0 = some r
theorem run_look {w : World} {mB : Nat} {es : Array MapEntry} {clock : Nat} (hb : w.heap[mB]? = some (.map es clock)) {s : ByteArray} {r : Option (Nat × Value)} (hf : Found es s r) :
    (Instr.lookup 56 (.map (some mB)) (.string s) true).run Tryd.prog w = .ok (.tuple #[(r.map (·.2)).getD (.agg #[.string ⟨#[]⟩, .slice none 0 0]), .bool r.isSome]) w := by
  have hc : ∀ e, (Instr.checkKey e 10000 9 (.string s)).run Tryd.prog w = .ok () w := fun e => MapKept.run_checkKey (k := .string s) Tryd.underlying9 (by simp [MapKept.IsKey]) e 9999
  cases r with
  | none => simp [Instr.lookup, run_underlying Tryd.underlying56, MapKept.run_getObj_map hb, hc, MapKept.run_findKey Tryd.underlying9 hf, zero27, Result.andThen]
  | some x =>
    obtain ⟨i, v⟩ := x
    simp [Instr.lookup, run_underlying Tryd.underlying56, MapKept.run_getObj_map hb, hc, MapKept.run_findKey Tryd.underlying9 hf, Result.andThen]
theorem run_store {w : World} {mB : Nat} {es : Array MapEntry} {clock : Nat} (hb : w.heap[mB]? = some (.map es clock)) {s : ByteArray} (hf : Found es s none) (val : Value) :
    (Instr.mapUpdate 56 (.map (some mB)) (.string s) val).run Tryd.prog w = .ok () (upd w mB (es.push { key := .string s, val := val, born := clock }) (clock + 1)) := by
  have hc : (Instr.checkKey false 10000 9 (.string s)).run Tryd.prog w = .ok () w := MapKept.run_checkKey (k := .string s) Tryd.underlying9 (by simp [MapKept.IsKey]) false 9999
  simp [Instr.mapUpdate, run_underlying Tryd.underlying56, MapKept.run_getObj_map hb, hc, MapKept.run_findKey Tryd.underlying9 hf, MapKept.run_setObj_map _ hb, Result.andThen, upd]
theorem upd_heap {w : World} {mB : Nat} {es es' : Array MapEntry} {clock clock' : Nat} (hb : w.heap[mB]? = some (.map es clock)) : (upd w mB es' clock').heap[mB]? = some (.map es' clock') := (MapKept.heap_set hb).1
theorem upd_grown (w : World) (mB : Nat) (es : Array MapEntry) (clock : Nat) : w.grownBy (upd w mB es clock) (some mB) :=
  ⟨rfl, rfl, rfl, by simp [upd], fun k _ hk => by
    have : k ≠ mB := fun e => hk (by rw [e])
    simp only [upd]
    rw [Array.getElem?_setIfInBounds_ne (Ne.symm this)]⟩
theorem heap_below {B : Nat} {w w' : World} (hb : Below B w w') {k : Nat} (hk : k < B) {o : Obj} (h : w.heap[k]? = some o) : w'.heap[k]? = some o := (hb.block k hk).trans h
end Go.Proofs.YtpfpganlghjhjaaDoor
