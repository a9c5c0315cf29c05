/- Contract of the document's own answer's Binary: both may be. -/
import Derived.Test.YtcjibjiojgikjaaDoorE8
import Derived.WalkKit
import Derived.WalkSpells
import Derived.WalkLawsBesides
import Derived.Lib.Hide
namespace Go.Proofs.YtcjibjiojgikjaaDoor
open Go Go.RowKit
set_option maxHeartbeats 2000000
set_option linter.unusedVariables false
set_option linter.unusedSimpArgs false
set_option maxRecDepth 100000 in
theorem binary_r3 (op : Int) (ho : 3 ≤ op ∧ op ≤ 13) (k n : Int) (s : ByteArray) (b : Bool) (k' n' : Int) (s' : ByteArray) (b' : Bool) (v1 : valid k n s b = true) (v2 : valid k' n' s' b' = true) (hk : k ≠ k') (hz : s.size ≤ maxLen) (w : World) : BinR op k n s b k' n' s' b' w 10 0 0 ⟨#[]⟩ false := by
  have q1 : decide (op < 3) = false := by simp; omega
  have q2 : decide (13 < op) = false := by simp; omega
  have q3 : (k != k') = true := by simp [hk]
  clear ho hk
  unfold BinR
  have HH : Hid (∀ (o1 o2 o3 : Obj) (w1 : World), Below (((w.alloc o1).alloc o2).alloc o3).heap.size (((w.alloc o1).alloc o2).alloc o3) w1 → Below w.heap.size w w1 ∧ w.heap.size + 1 + 1 < w1.heap.size) := fun o1 o2 o3 w1 h => ⟨((((Below.refl _ _).alloc (Nat.le_refl _) o1).alloc (by simp) o2).alloc (by simp; omega) o3).trans (h.mono (by simp; omega)), by have := h.size; simp at this; omega⟩
  have t0 : w.heap.size < w.heap.size + 1 + 1 + 1 := by omega
  have t1 : w.heap.size + 1 < w.heap.size + 1 + 1 + 1 := by omega
  have V1 := Lib.hid v1
  have V2 := Lib.hid v2
  have HZ := Lib.hid hz
  clear v1 v2 hz
  go_enter Tryd.func25, Tryd.ntmps25
  go_wp2_with fail
  refine (valid_r _ _ _ _ _).mono ?_
  rw [V1.out]
  rintro e w1 ⟨rfl, hb1⟩
  obtain ⟨hc1, hf1⟩ := bcell hb1
  have HB1 := Lib.hid hb1
  clear hb1
  go_wp2_with fail
  refine (valid_r _ _ _ _ _).mono ?_
  rw [V2.out]
  rintro e w2 ⟨rfl, hb2⟩
  have hb2' := HB1.out.trans (hb2.mono HB1.out.size)
  clear hc1 hf1
  obtain ⟨hc2, hf2⟩ := bcell4 hb2'
  have hh2 := HH.out _ _ _ _ hb2'
  have HB2 := Lib.hid hb2'
  clear hb2 hb2'
  go_wp2
  refine bodyPost_ret (v := .tuple #[.agg #[.int .i64 0, .int .i64 0, .string ⟨#[]⟩, .bool false], .int .i64 10]) (by simp [results, Tryd.results25, go_sem, hc2]) rfl ?_
  refine ⟨rfl, ?_⟩
  repeat (first | exact hh2.1 | apply Below.drew | refine Below.setCell ?_ (by show w.heap.size ≤ w.heap.size + 1 + 1; omega) _ | refine Below.alloc ?_ (by first | omega | (simp [World.setCell]; done) | (simp [World.setCell]; omega)) _)
set_option maxRecDepth 100000 in
theorem binary_r4 (op k : Int) (n : Int) (s : ByteArray) (b : Bool) (n' : Int) (s' : ByteArray) (b' : Bool) (ho : (op = 6 ∧ (k = 1 ∨ k = 2 ∨ k = 3)) ∨ (op = 7 ∧ (k = 1 ∨ k = 2 ∨ k = 3)) ∨ (op = 8 ∧ (k = 1 ∨ k = 2)) ∨ (op = 9 ∧ (k = 1 ∨ k = 2)) ∨ (op = 10 ∧ (k = 1 ∨ k = 2)) ∨ (op = 11 ∧ (k = 1 ∨ k = 2))) (v1 : valid k n s b = true) (v2 : valid k n' s' b' = true) (hz : s.size ≤ maxLen) (w : World) : BinR op k n s b k n' s' b' w 0 3 0 ⟨#[]⟩ (holdsB op (cmpV k n s b k n' s' b')) := by
  obtain ⟨R, hR⟩ : ∃ R, R = holdsB op (cmpV k n s b k n' s' b') := ⟨_, rfl⟩
  rw [← hR]
  have HR := Lib.hid hR
  clear hR
  unfold BinR
  have HH : Hid (∀ (o1 o2 o3 : Obj) (w1 : World), Below (((w.alloc o1).alloc o2).alloc o3).heap.size (((w.alloc o1).alloc o2).alloc o3) w1 → Below w.heap.size w w1 ∧ w.heap.size + 1 + 1 < w1.heap.size) := fun o1 o2 o3 w1 h => ⟨((((Below.refl _ _).alloc (Nat.le_refl _) o1).alloc (by simp) o2).alloc (by simp; omega) o3).trans (h.mono (by simp; omega)), by have := h.size; simp at this; omega⟩
  have t0 : w.heap.size < w.heap.size + 1 + 1 + 1 := by omega
  have t1 : w.heap.size + 1 < w.heap.size + 1 + 1 + 1 := by omega
  have V1 := Lib.hid v1
  have V2 := Lib.hid v2
  have HZ := Lib.hid hz
  clear v1 v2 hz
  rcases ho with ⟨rfl, rfl | rfl | rfl⟩ | ⟨rfl, rfl | rfl | rfl⟩ | ⟨rfl, rfl | rfl⟩ | ⟨rfl, rfl | rfl⟩ | ⟨rfl, rfl | rfl⟩ | ⟨rfl, rfl | rfl⟩
  all_goals
    go_enter Tryd.func25, Tryd.ntmps25
    go_wp2_with fail
    refine (valid_r _ _ _ _ _).mono ?_
    rw [V1.out]
    rintro e w1 ⟨rfl, hb1⟩
    obtain ⟨hc1, hf1⟩ := bcell hb1
    have HB1 := Lib.hid hb1
    clear hb1
    go_wp2_with fail
    refine (valid_r _ _ _ _ _).mono ?_
    rw [V2.out]
    rintro e w2 ⟨rfl, hb2⟩
    have hb2' := HB1.out.trans (hb2.mono HB1.out.size)
    clear hc1 hf1
    obtain ⟨hc2, hf2⟩ := bcell4 hb2'
    have hh2 := HH.out _ _ _ _ hb2'
    have HB2 := Lib.hid hb2'
    clear hb2 hb2'
    go_wp2_with fail
    refine (compare_r _ _ _ _ _ _ _ _ HZ.out _).mono ?_
    rintro e w3 ⟨rfl, hb3⟩
    have hb3' := HB2.out.trans (hb3.mono HB2.out.size)
    clear hc2 hf2
    obtain ⟨hc3, hf3⟩ := bcell4 hb3'
    have hh3 := HH.out _ _ _ _ hb3'
    have HB3 := Lib.hid hb3'
    clear hb3 hb3'
    go_wp2_with fail
    refine (truth_r _ _).mono ?_
    rintro e w4 ⟨rfl, hb4⟩
    have hb4' := HB3.out.trans (hb4.mono HB3.out.size)
    clear hc3 hf3
    obtain ⟨hc4, hf4⟩ := bcell4 hb4'
    have hh4 := HH.out _ _ _ _ hb4'
    go_wp2
    have hr := HR.out
    simp only [holdsB] at hr
    subst hr
    clear HR
    refine bodyPost_ret (v := .tuple #[.agg #[.int .i64 3, .int .i64 0, .string ⟨#[]⟩, .bool _], .int .i64 0]) (by simp [results, Tryd.results25, go_sem, hc4]; rfl) rfl ?_
    refine ⟨rfl, ?_⟩
    repeat (first | exact hh4.1 | apply Below.drew | refine Below.setCell ?_ (by show w.heap.size ≤ w.heap.size + 1 + 1; omega) _ | refine Below.alloc ?_ (by first | omega | (simp [World.setCell]; done) | (simp [World.setCell]; omega)) _)
set_option maxRecDepth 100000 in
theorem binary_r5 (op k : Int) (n : Int) (s : ByteArray) (b : Bool) (n' : Int) (s' : ByteArray) (b' : Bool) (ho : (k = 3 ∧ (op = 8 ∨ op = 9 ∨ op = 10 ∨ op = 11 ∨ op = 3 ∨ op = 4 ∨ op = 5)) ∨ (k = 2 ∧ (op = 3 ∨ op = 4 ∨ op = 5 ∨ op = 12 ∨ op = 13)) ∨ (k = 1 ∧ (op = 12 ∨ op = 13))) (v1 : valid k n s b = true) (v2 : valid k n' s' b' = true) (hz : s.size ≤ maxLen) (w : World) : BinR op k n s b k n' s' b' w 10 0 0 ⟨#[]⟩ false := by
  unfold BinR
  have HH : Hid (∀ (o1 o2 o3 : Obj) (w1 : World), Below (((w.alloc o1).alloc o2).alloc o3).heap.size (((w.alloc o1).alloc o2).alloc o3) w1 → Below w.heap.size w w1 ∧ w.heap.size + 1 + 1 < w1.heap.size) := fun o1 o2 o3 w1 h => ⟨((((Below.refl _ _).alloc (Nat.le_refl _) o1).alloc (by simp) o2).alloc (by simp; omega) o3).trans (h.mono (by simp; omega)), by have := h.size; simp at this; omega⟩
  have t0 : w.heap.size < w.heap.size + 1 + 1 + 1 := by omega
  have t1 : w.heap.size + 1 < w.heap.size + 1 + 1 + 1 := by omega
  have V1 := Lib.hid v1
  have V2 := Lib.hid v2
  have HZ := Lib.hid hz
  clear v1 v2 hz
  rcases ho with ⟨rfl, rfl | rfl | rfl | rfl | rfl | rfl | rfl⟩ | ⟨rfl, rfl | rfl | rfl | rfl | rfl⟩ | ⟨rfl, rfl | rfl⟩
  all_goals
    go_enter Tryd.func25, Tryd.ntmps25
    go_wp2_with fail
    refine (valid_r _ _ _ _ _).mono ?_
    rw [V1.out]
    rintro e w1 ⟨rfl, hb1⟩
    obtain ⟨hc1, hf1⟩ := bcell hb1
    have HB1 := Lib.hid hb1
    clear hb1
    go_wp2_with fail
    refine (valid_r _ _ _ _ _).mono ?_
    rw [V2.out]
    rintro e w2 ⟨rfl, hb2⟩
    have hb2' := HB1.out.trans (hb2.mono HB1.out.size)
    clear hc1 hf1
    obtain ⟨hc2, hf2⟩ := bcell4 hb2'
    have hh2 := HH.out _ _ _ _ hb2'
    have HB2 := Lib.hid hb2'
    clear hb2 hb2'
    go_wp2_with fail
    refine (compare_r _ _ _ _ _ _ _ _ HZ.out _).mono ?_
    rintro e w3 ⟨rfl, hb3⟩
    have hb3' := HB2.out.trans (hb3.mono HB2.out.size)
    clear hc2 hf2
    obtain ⟨hc3, hf3⟩ := bcell4 hb3'
    have hh3 := HH.out _ _ _ _ hb3'
    have HB3 := Lib.hid hb3'
    clear hb3 hb3'
    go_wp2
    refine bodyPost_ret (v := .tuple #[.agg #[.int .i64 0, .int .i64 0, .string ⟨#[]⟩, .bool false], .int .i64 10]) (by simp [results, Tryd.results25, go_sem, hc3]) rfl ?_
    refine ⟨rfl, ?_⟩
    repeat (first | exact hh3.1 | apply Below.drew | refine Below.setCell ?_ (by show w.heap.size ≤ w.heap.size + 1 + 1; omega) _ | refine Below.alloc ?_ (by first | omega | (simp [World.setCell]; done) | (simp [World.setCell]; omega)) _)
end Go.Proofs.YtcjibjiojgikjaaDoor
