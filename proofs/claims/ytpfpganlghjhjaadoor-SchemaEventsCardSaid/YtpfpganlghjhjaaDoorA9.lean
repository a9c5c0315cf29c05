/- Contracts of the catalog's New, and of List where nothing is declared. -/
import Derived.Test.YtpfpganlghjhjaaDoorA8
import Derived.Laws.IdiomRangeMap
namespace Go.Proofs.YtpfpganlghjhjaaDoor
open Go Go.RowKit
set_option maxHeartbeats 2000000
set_option linter.unusedVariables false
set_option linter.unusedSimpArgs false
theorem new_any (w : World) : Calls Tryd.prog 6 #[] w fun e w' => e = .returned (.pointer (some ⟨w.heap.size + 1, 0, none⟩)) ∧ Below w.heap.size w w' ∧ Cat w' (w.heap.size + 1) w.heap.size #[] 0 := by
  have hmm := @run_makeMap Tryd.prog
  have e : (w.alloc (.map #[] 0)).heap.size = w.heap.size + 1 := by simp
  go_enter Tryd.func6, Tryd.ntmps6
  go_wp2
  go_ret
  refine ⟨by simp, ((Below.refl _ _).alloc (Nat.le_refl _) _).alloc (by simp) _, ?_, ?_⟩
  · simp [go_sem]
  · rw [heap_alloc_old _ _ (by simp), heap_alloc_new]
set_option maxRecDepth 100000 in
theorem len64_zero (w : World) : Calls Tryd.prog 67 #[.int .u64 0] w fun e w' => ∃ z, e = .returned (.int .i64 z) ∧ w' = w := by
  go_enter Tryd.func67, Tryd.ntmps67
  go_wp2
  go_ret
  exact ⟨_, rfl, by first | rfl | trivial⟩
theorem len_zero (w : World) : Calls Tryd.prog 48 #[.int .u64 0] w fun e w' => ∃ z, e = .returned (.int .i64 z) ∧ w' = w := by
  go_enter Tryd.func48, Tryd.ntmps48
  go_wp2_with (go_at_call 67; refine (len64_zero _).mono ?_; rintro e w' ⟨z, rfl, hw⟩; obtain rfl := hw.symm)
  go_ret
  exact ⟨_, rfl, by first | rfl | trivial⟩
theorem insert_zero (p : Option Addr) (c : Nat) (f : Value) (w : World) : Calls Tryd.prog 58 #[.slice p 0 c, .int .i64 0, .int .i64 0, f] w fun e w' => e = .returned (.tuple #[]) ∧ w' = w := by
  go_enter Tryd.func58, Tryd.ntmps58
  go_wp2
  go_loopw [8] (fun i wr => i = .int .i64 1 ∧ wr = w) (fun _ _ => 0)
  case atStart => exact ⟨rfl, rfl⟩
  case round =>
    obtain ⟨rfl, rfl⟩ := hrel
    go_wp2
    first | go_end0 | refine bodyPost_ret (v := .tuple #[]) (by simp [results, Tryd.results58, go_sem]) rfl ?_
    exact ⟨rfl, by first | rfl | trivial⟩
set_option maxRecDepth 100000 in
theorem pdq_zero (p : Option Addr) (c : Nat) (z : Int) (f : Value) (w : World) : Calls Tryd.prog 47 #[.slice p 0 c, .int .i64 0, .int .i64 0, .int .i64 z, f] w fun e w' => e = .returned (.tuple #[]) ∧ w' = w := by
  go_enter Tryd.func47, Tryd.ntmps47
  go_wp2
  go_loopw [1, 2] (fun a b wr => a = .int .i64 0 ∧ b = .int .i64 0 ∧ wr = w) (fun _ _ _ => 0)
  case atStart => exact ⟨rfl, rfl, rfl⟩
  case round =>
    obtain ⟨rfl, rfl, rfl⟩ := hrel
    go_wp2_with (go_at_call 58; refine (insert_zero _ _ _ _).mono ?_; rintro e w' ⟨rfl, hw⟩; obtain rfl := hw.symm)
    first | go_end0 | refine bodyPost_ret (v := .tuple #[]) (by simp [results, Tryd.results47, go_sem]) rfl ?_
    exact ⟨rfl, by first | rfl | trivial⟩
theorem sort_zero (p : Option Addr) (c : Nat) (f : Value) (w : World) : Calls Tryd.prog 28 #[.slice p 0 c, f] w fun e w' => e = .returned (.tuple #[]) ∧ w' = w := by
  go_enter Tryd.func28, Tryd.ntmps28
  go_wp2_with (first | (go_at_call 48; refine (len_zero _).mono ?_; rintro e w' ⟨z, rfl, hw⟩; obtain rfl := hw.symm) | (go_at_call 47; refine (pdq_zero _ _ _ _ _).mono ?_; rintro e w' ⟨rfl, hw⟩; obtain rfl := hw.symm))
  first | go_end0 | refine bodyPost_ret (v := .tuple #[]) (by simp [results, Tryd.results28, go_sem]) rfl ?_
  exact ⟨rfl, by first | rfl | trivial⟩
theorem infoType : (Tryd.prog.info? 27).map (fun i => (i.zero, i.size, i.bytes)) = some (some (.agg #[.string ⟨#[]⟩, .slice none 0 0]), 2, 40) := by kernel_rfl
theorem next_none (w : World) (ty : TypeId) (mB : Nat) (hb : w.heap[mB]? = some (.map #[] 0)) :
    (Instr.next (.pointer (some ⟨w.heap.size, 0, none⟩)) false ty).run Tryd.prog (w.alloc (.mapIter (some mB) 0 #[] 0)) = .ok (.tuple #[.bool false]) (w.alloc (.mapIter (some mB) 0 #[] 0)) := by
  rcases run_next_map (P := Tryd.prog) w ty mB 0 0 #[] #[] 0 hb (fun x hx => by simp at hx) (Nat.le_refl _) with ⟨_, h⟩ | ⟨e, he, _⟩
  · exact h
  · simp [leftOf] at he
theorem list_empty (cB mB : Nat) (w : World) (h : Cat w cB mB #[] 0) : Calls Tryd.prog 17 #[.pointer (some ⟨cB, 0, none⟩)] w fun e w' => ∃ p c, e = .returned (.slice p 0 c) ∧ Below w.heap.size w w' := by
  obtain ⟨i0, hi, hz0, hz1, hz2⟩ := info_parts infoType
  have y0 := h.cell
  have hh := h.heap
  have zc := h.lt.1
  have zm := h.lt.2
  have hln := run_len hh
  go_enter Tryd.func17, Tryd.ntmps17
  go_wp2_with (at_make; refine wpList_make_own _ rfl _ _ 54 rfl w.heap.size 27 i0 (.agg #[.string ⟨#[]⟩, .slice none 0 0]) 2 Tryd.underlying54 hi hz0 hz1 _ _ _ 0 rfl rfl (by first | rfl | omega | (simp; omega)) (by omega) (by unfold maxLen; omega) (Nat.le_refl _) ?_; intro w0 hown0 hgrow0; refine Hid.out ?_)
  refine Lib.hid ?_
  have HB0 : Hid (Below w.heap.size w w0) := (Below.refl _ _).grown hgrow0 (Nat.le_refl _) (fun k hk => by cases hk)
  have y1 : w0.cell? ⟨cB, 0, none⟩ = some (.map (some mB)) := (HB0.out.cell (p := ⟨cB, 0, none⟩) zc).trans y0
  have hh1 : w0.heap[mB]? = some (.map #[] 0) := heap_below HB0.out zm hh
  have hrg := run_range_map (P := Tryd.prog) w0 56 9 27 mB #[] 0 Tryd.underlying56 hh1
  clear y0 hh hln hown0 hgrow0
  go_wp2
  go_loopw [3] (fun s wr => s = .slice (some ⟨w.heap.size, 0, none⟩) 0 0 ∧ wr = w0.alloc (.mapIter (some mB) 0 #[] 0)) (fun _ _ => 0)
  case atStart => exact ⟨rfl, rfl⟩
  case round =>
    obtain ⟨rfl, rfl⟩ := hrel
    have hnx := fun ty => next_none w0 ty mB hh1
    go_wp2_with (go_at_call 28; refine (sort_zero _ _ _ _).mono ?_; rintro e w' ⟨rfl, hw⟩; obtain rfl := hw.symm)
    go_ret
    exact ⟨_, _, rfl, HB0.out.alloc HB0.out.size _⟩
end Go.Proofs.YtpfpganlghjhjaaDoor
