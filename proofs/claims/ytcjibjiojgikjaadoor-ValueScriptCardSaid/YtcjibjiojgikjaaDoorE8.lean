/- Contract of the document's own answer's Binary. -/
import Derived.Test.YtcjibjiojgikjaaDoorE7
import Derived.WalkKit
import Derived.WalkSpells
import Derived.WalkLawsBesides
import Derived.Lib.Hide
namespace Go.Proofs.YtcjibjiojgikjaaDoor
open Go Go.RowKit
set_option maxHeartbeats 2000000
set_option linter.unusedVariables false
set_option linter.unusedSimpArgs false
/-- Binary answers this -/
def BinR (op k n : Int) (s : ByteArray) (b : Bool) (k' n' : Int) (s' : ByteArray) (b' : Bool) (w : World) (E K N : Int) (S : ByteArray) (T : Bool) : Prop :=
  Calls Tryd.prog 25 #[.int .i64 op, .agg #[.int .i64 k, .int .i64 n, .string s, .bool b], .agg #[.int .i64 k', .int .i64 n', .string s', .bool b']] w fun e w' => e = .returned (.tuple #[.agg #[.int .i64 K, .int .i64 N, .string S, .bool T], .int .i64 E]) ∧ Below w.heap.size w w'
set_option maxRecDepth 100000 in
theorem binary_r1 (op k n : Int) (s : ByteArray) (b : Bool) (k' n' : Int) (s' : ByteArray) (b' : Bool) (h : op < 3 ∨ 13 < op) (w : World) : BinR op k n s b k' n' s' b' w 11 0 0 ⟨#[]⟩ false := by
  have q : decide (op < 3) = true ∨ (decide (op < 3) = false ∧ decide (13 < op) = true) := by
    by_cases h3 : op < 3
    · exact .inl (by simpa using h3)
    · exact .inr ⟨by simpa using h3, by simp; omega⟩
  unfold BinR
  clear h
  rcases q with q1 | ⟨q1, q2⟩
  all_goals
    go_enter Tryd.func25, Tryd.ntmps25
    go_wp2
    refine bodyPost_ret (v := .tuple #[.agg #[.int .i64 0, .int .i64 0, .string ⟨#[]⟩, .bool false], .int .i64 11]) (by simp [results, Tryd.results25, go_sem]) rfl ?_
    refine ⟨rfl, ?_⟩
    repeat (first | exact Below.refl _ _ | apply Below.drew | refine Below.setCell ?_ (by show w.heap.size ≤ w.heap.size + 1 + 1; omega) _ | refine Below.alloc ?_ (by first | omega | (simp [World.setCell]; done) | (simp [World.setCell]; omega)) _)
set_option maxRecDepth 100000 in
theorem binary_r2 (op : Int) (ho : 3 ≤ op ∧ op ≤ 13) (k n : Int) (s : ByteArray) (b : Bool) (k' n' : Int) (s' : ByteArray) (b' : Bool) (hv : ¬ (valid k n s b = true ∧ valid k' n' s' b' = true)) (w : World) : BinR op k n s b k' n' s' b' w 12 0 0 ⟨#[]⟩ false := by
  have q1 : decide (op < 3) = false := by simp; omega
  have q2 : decide (13 < op) = false := by simp; omega
  have HH : Hid (∀ (o1 o2 o3 : Obj) (w1 : World), Below (((w.alloc o1).alloc o2).alloc o3).heap.size (((w.alloc o1).alloc o2).alloc o3) w1 → Below w.heap.size w w1 ∧ w.heap.size + 1 + 1 < w1.heap.size) := fun o1 o2 o3 w1 h => ⟨((((Below.refl _ _).alloc (Nat.le_refl _) o1).alloc (by simp) o2).alloc (by simp; omega) o3).trans (h.mono (by simp; omega)), by have := h.size; simp at this; omega⟩
  have t0 : w.heap.size < w.heap.size + 1 + 1 + 1 := by omega
  have t1 : w.heap.size + 1 < w.heap.size + 1 + 1 + 1 := by omega
  unfold BinR
  clear ho
  cases v1 : valid k n s b <;> cases v2 : valid k' n' s' b'
  case true.true => exact absurd ⟨v1, v2⟩ hv
  all_goals
    have V1 := Lib.hid v1
    have V2 := Lib.hid v2
    clear v1 v2 hv
    go_enter Tryd.func25, Tryd.ntmps25
    go_wp2_with fail
    refine (valid_r _ _ _ _ _).mono ?_
    rw [V1.out]
    rintro e w1 ⟨rfl, hb1⟩
    obtain ⟨hc1, hf1⟩ := bcell hb1
    have hB1 := HH.out _ _ _ _ hb1
    have HB1 := Lib.hid hb1
    clear hb1
    go_wp2_with fail
    refine (valid_r _ _ _ _ _).mono ?_
    rw [V2.out]
    rintro e w2 ⟨rfl, hb2⟩
    have hb2' := HB1.out.trans (hb2.mono HB1.out.size)
    clear hc1 hf1
    obtain ⟨hc2, hf2⟩ := bcell4 hb2'
    obtain ⟨hB2, hz2⟩ := HH.out _ _ _ _ hb2'
    go_wp2
    refine bodyPost_ret (v := .tuple #[.agg #[.int .i64 0, .int .i64 0, .string ⟨#[]⟩, .bool false], .int .i64 12]) (by simp [results, Tryd.results25, go_sem, hc2]) rfl ?_
    refine ⟨rfl, ?_⟩
    repeat (first | exact hB2 | apply Below.drew | refine Below.setCell ?_ (by show w.heap.size ≤ w.heap.size + 1 + 1; omega) _ | refine Below.alloc ?_ (by first | omega | (simp [World.setCell]; done) | (simp [World.setCell]; omega)) _)
end Go.Proofs.YtcjibjiojgikjaaDoor
