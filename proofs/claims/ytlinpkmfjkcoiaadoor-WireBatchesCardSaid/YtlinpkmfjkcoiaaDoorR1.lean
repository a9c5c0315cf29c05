/- The reader of package wire: what lies where; its demand and take. -/
import Derived.Test.YtlinpkmfjkcoiaaDoorC2
import Derived.Lib.BufferOwn
import Derived.Laws.BytesArg
import Derived.BigQuiet
import Derived.Deep.QuietTactic
import Derived.Deep.RegionWith
import Derived.Deep.RegionHeld3
namespace Go.Proofs.YtlinpkmfjkcoiaaDoor
open Go Go.RowKit
set_option maxHeartbeats 1000000
set_option linter.unusedVariables false
set_option linter.unusedSimpArgs false
theorem lt_of_cell {w : World} {b : Nat} {o : Nat} {v : Value} (h : w.cell? ⟨b, o, none⟩ = some v) : b < w.heap.size := by
  rcases Nat.lt_or_ge b w.heap.size with hlt | hge
  · exact hlt
  · simp [World.cell?, Array.getElem?_eq_none hge] at h
theorem cell_keeps {w w' : World} {R b o : Nat} {v : Value} (hg : w.grownBy w' (some R)) (h : w.cell? ⟨b, o, none⟩ = some v) (hne : b ≠ R) : w'.cell? ⟨b, o, none⟩ = some v :=
  (World.cell?_of_block (a := ⟨b, o, none⟩) (hg.block b (lt_of_cell h) (by simpa using hne))).trans h
/-- bytes lie there, and not in block R -/
def Byt (w : World) (R : Nat) (p : Option Addr) (l : List UInt8) : Prop := ∀ i (h : i < l.length), ∃ b o, p = some ⟨b, o, none⟩ ∧ b ≠ R ∧ w.cell? ⟨b, o + i, none⟩ = some (.int .u8 (l[i].toNat : Int))
theorem Byt.grown {w w' : World} {R : Nat} {p : Option Addr} {l : List UInt8} (h : Byt w R p l) (hg : w.grownBy w' (some R)) : Byt w' R p l := by
  intro i hi
  obtain ⟨b, o, e, hne, c⟩ := h i hi
  exact ⟨b, o, e, hne, cell_keeps hg c hne⟩
theorem Byt.nil (w : World) (R : Nat) (p : Option Addr) : Byt w R p [] := fun i h => absurd h (Nat.not_lt_zero _)
theorem Byt.take {w : World} {R : Nat} {p : Option Addr} {l : List UInt8} (h : Byt w R p l) (n : Nat) : Byt w R p (l.take n) := by
  intro i hi
  obtain ⟨b, o, e, hne, c⟩ := h i (by rw [List.length_take] at hi; omega)
  exact ⟨b, o, e, hne, by rw [List.getElem_take]; exact c⟩
/-- where the rest of a row lies -/
def restP (p : Option Addr) (a c : Nat) : Option Addr := if c = a then p else p.map (·.add a)
theorem Byt.drop {w : World} {R : Nat} {p : Option Addr} {l : List UInt8} (h : Byt w R p l) {a c : Nat} (hc : l.length ≤ c) : Byt w R (restP p a c) (l.drop a) := by
  intro i hi
  rw [List.length_drop] at hi
  obtain ⟨b, o, e, hne, hh⟩ := h (a + i) (by omega)
  refine ⟨b, o + a, ?_, hne, by rw [List.getElem_drop, Nat.add_assoc]; exact hh⟩
  unfold restP
  rw [if_neg (by omega), e]
  simp [Addr.add]
theorem run_rest (p : Option Addr) (a n c : Nat) (ha : a ≤ n) (w : World) : (Instr.slice 25 (.slice p n c) (some (.int .i64 a)) none none).run Tryd.prog w = .ok (.slice (restP p a c) (n - a) (c - a)) w := by
  have hs : (sizeOf 5).run Tryd.prog w = .ok 1 w := by kernel_rfl
  have he : Tryd.prog.elem 25 = 5 := by kernel_rfl
  rw [run_slice_l w 25 p n c (by rw [he]; exact Tryd.underlying25) .i64 a (by omega) (by omega), he, hs]
  simp [Result.andThen, sliced, restP]
theorem map_add_zero (p : Option Addr) : Option.map (fun x : Addr => x.add 0) p = p := by cases p <;> simp [Addr.add]
theorem run_front (p : Option Addr) (k n c : Nat) (hk : k ≤ c) (w : World) : (Instr.slice 25 (.slice p n c) none (some (.int .i64 k)) none).run Tryd.prog w = .ok (.slice p k c) w := by
  have hs : (sizeOf 5).run Tryd.prog w = .ok 1 w := by kernel_rfl
  have he : Tryd.prog.elem 25 = 5 := by kernel_rfl
  rw [run_slice_h w 25 p n c (by rw [he]; exact Tryd.underlying25) .i64 k (by omega) (by omega), he, hs]
  simp [Result.andThen, sliced, map_add_zero]
theorem run_str {w : World} {R : Nat} {p : Option Addr} {l : List UInt8} (h : Byt w R p l) (c : Nat) : (convert 25 9 (.slice p l.length c)).run Tryd.prog w = .ok (.string ⟨l.toArray⟩) w := by
  by_cases h0 : l = []
  · subst h0
    rw [List.length_nil, run_convert_bytes_string w 25 9 5 p 0 c Tryd.underlying25 Tryd.underlying5 Tryd.underlying9]
    cases p <;> simp [Conv.bytesToString, loadCells]
    all_goals rfl
  · obtain ⟨b, o, rfl, _, _⟩ := h 0 (List.length_pos_iff.2 h0)
    have := run_convert_bytes_arg (P := Tryd.prog) w 25 5 Tryd.underlying25 Tryd.underlying5 b o l.length c (l.map fun x => (x.toNat : Int)) (by simp) (fun i hi => by
      obtain ⟨b', o', e, _, hh⟩ := h i hi
      simp only [Option.some.injEq, Addr.mk.injEq, and_true] at e
      obtain ⟨rfl, rfl⟩ := e
      rw [hh]
      simp [hi]) 9 Tryd.underlying9
    have hm : (l.map fun x => (x.toNat : Int)).map (fun n => UInt8.ofNat n.toNat) = l := by
      rw [List.map_map]
      conv => rhs; rw [← List.map_id l]
      exact List.map_congr_left fun x _ => by simp
    have e : strOfNums (l.map fun x => (x.toNat : Int)) = ⟨l.toArray⟩ := by unfold strOfNums; rw [hm]
    rw [e] at this
    exact this
/-- the reader at R -/
structure Rdr (w : World) (R : Nat) (sv : Value) (a : Nat) (f : Int) : Prop where
  c0 : w.cell? ⟨R, 0, none⟩ = some sv
  c1 : w.cell? ⟨R, 1, none⟩ = some (.int .i64 a)
  c2 : w.cell? ⟨R, 2, none⟩ = some (.int .i64 f)
  z1 : w.frozen? ⟨R, 1, none⟩ = false
  z2 : w.frozen? ⟨R, 2, none⟩ = false
theorem Rdr.lt {w : World} {R : Nat} {sv : Value} {a : Nat} {f : Int} (h : Rdr w R sv a f) : R < w.heap.size := lt_of_cell h.c0
theorem Rdr.below {w w' : World} {R : Nat} {sv : Value} {a : Nat} {f : Int} (h : Rdr w R sv a f) (hb : Below w.heap.size w w') : Rdr w' R sv a f :=
  ⟨(hb.cell (p := ⟨R, 0, none⟩) h.lt).trans h.c0, (hb.cell (p := ⟨R, 1, none⟩) h.lt).trans h.c1, (hb.cell (p := ⟨R, 2, none⟩) h.lt).trans h.c2, (hb.frozen (p := ⟨R, 1, none⟩) h.lt).trans h.z1, (hb.frozen (p := ⟨R, 2, none⟩) h.lt).trans h.z2⟩
theorem Rdr.at {w : World} {R : Nat} {sv : Value} {a : Nat} {f : Int} (h : Rdr w R sv a f) (a' : Nat) : Rdr (w.setCell ⟨R, 1, none⟩ (.int .i64 a')) R sv a' f :=
  ⟨by simp [go_sem, h.c0], by simp [go_sem, h.c1], by simp [go_sem, h.c2], by simp [go_sem, h.z1], by simp [go_sem, h.z2]⟩
theorem Rdr.bad {w : World} {R : Nat} {sv : Value} {a : Nat} {f : Int} (h : Rdr w R sv a f) (f' : Int) : Rdr (w.setCell ⟨R, 2, none⟩ (.int .i64 f')) R sv a f' :=
  ⟨by simp [go_sem, h.c0], by simp [go_sem, h.c1], by simp [go_sem, h.c2], by simp [go_sem, h.z1], by simp [go_sem, h.z2]⟩
/-- behind a call of the reader's -/
structure After (w w' : World) (R : Nat) (sv : Value) (n a' : Nat) (f' : Int) : Prop where
  g : w.grownBy w' (some R)
  r : Rdr w' R sv a' f'
  le : a' ≤ n
/-- what came of it: an elder fault stands; else what the document says -/
def Came {α : Type} (a a' : Nat) (f f' : Int) (r : Res α) (V : α → Prop) : Prop :=
  (f ≠ 0 ∧ f' = f) ∨ (f = 0 ∧ match r with
    | .bad E => f' = E ∧ E ≠ 0
    | .ok v k => f' = 0 ∧ a' = a + k ∧ V v)
/-! ### demand -/
def Demanded (w : World) (R : Nat) (f : Int) (ok : Bool) (E : Int) (e : Ending) (w' : World) : Prop := e = .returned (.tuple #[]) ∧ w' = if f = 0 ∧ ok = false then w.setCell ⟨R, 2, none⟩ (.int .i64 E) else w
theorem demand_any (R : Nat) (sv : Value) (a : Nat) (f : Int) (ok : Bool) (E : Int) (w : World) (hr : Rdr w R sv a f) : Calls Tryd.prog 53 #[.pointer (some ⟨R, 0, none⟩), .bool ok, .int .i64 E] w (Demanded w R f ok E) := by
  obtain ⟨c0, c1, c2, z1, z2⟩ := hr
  by_cases hf : f = 0
  · subst hf
    cases ok
    · go_enter Tryd.func53, Tryd.ntmps53
      go_wp2
      first | go_end0 | refine bodyPost_ret (v := .tuple #[]) (by simp [results, Tryd.results53, go_sem]) rfl ?_
      exact ⟨rfl, by simp⟩
    · go_enter Tryd.func53, Tryd.ntmps53
      go_wp2
      first | go_end0 | refine bodyPost_ret (v := .tuple #[]) (by simp [results, Tryd.results53, go_sem]) rfl ?_
      exact ⟨rfl, by simp⟩
  · have hf' : (f == 0) = false := by simpa using hf
    have HW : Hid ((if f = 0 ∧ ok = false then w.setCell ⟨R, 2, none⟩ (.int .i64 E) else w) = w) := by show _ = _; rw [if_neg (fun h => hf h.1)]
    clear hf
    go_enter Tryd.func53, Tryd.ntmps53
    go_wp2
    first | go_end0 | refine bodyPost_ret (v := .tuple #[]) (by simp [results, Tryd.results53, go_sem]) rfl ?_
    exact ⟨rfl, HW.out.symm⟩
end Go.Proofs.YtlinpkmfjkcoiaaDoor
