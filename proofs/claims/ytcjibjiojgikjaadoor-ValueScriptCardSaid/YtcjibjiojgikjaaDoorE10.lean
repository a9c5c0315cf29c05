/- Contract of the document's own answer's Binary: AND, OR, sums and products. -/
import Derived.Test.YtcjibjiojgikjaaDoorE9
import Derived.WalkKit
import Derived.WalkSpells
import Derived.WalkLawsBesides
import Derived.Lib.Hide
namespace Go.Proofs.YtcjibjiojgikjaaDoor
open Go Go.RowKit
set_option maxHeartbeats 2000000
set_option linter.unusedVariables false
set_option linter.unusedSimpArgs false
set_option maxRecDepth 100000 in
theorem binary_r6 (op : Int) (n : Int) (s : ByteArray) (b : Bool) (n' : Int) (s' : ByteArray) (b' : Bool) (ho : op = 12 ∨ op = 13) (v1 : valid 3 n s b = true) (v2 : valid 3 n' s' b' = true) (hz : s.size ≤ maxLen) (w : World) : BinR op 3 n s b 3 n' s' b' w 0 3 0 ⟨#[]⟩ (joinB op b b') := by
  unfold BinR
  have HH : Hid (∀ (o1 o2 o3 : Obj) (w1 : World), Below (((w.alloc o1).alloc o2).alloc o3).heap.size (((w.alloc o1).alloc o2).alloc o3) w1 → Below w.heap.size w w1 ∧ w.heap.size + 1 + 1 < w1.heap.size) := fun o1 o2 o3 w1 h => ⟨((((Below.refl _ _).alloc (Nat.le_refl _) o1).alloc (by simp) o2).alloc (by simp; omega) o3).trans (h.mono (by simp; omega)), by have := h.size; simp at this; omega⟩
  have t0 : w.heap.size < w.heap.size + 1 + 1 + 1 := by omega
  have t1 : w.heap.size + 1 < w.heap.size + 1 + 1 + 1 := by omega
  have V1 := Lib.hid v1
  have V2 := Lib.hid v2
  have HZ := Lib.hid hz
  clear v1 v2 hz
  rcases ho with rfl | rfl <;> cases b <;> cases b'
  all_goals
    go_enter Tryd.func25, Tryd.ntmps25
    go_wp2_with fail
    refine (valid_r _ _ _ _ _).mono ?_
    rw [V1.out]
    rintro e w1 ⟨rfl, hb1⟩
    obtain ⟨hc1, hf1⟩ := bcell hb1
    have HB1 := Lib.hid hb1
    clear hb1
    go_wp2_with fail
    refine (valid_r _ _ _ _ _).mono ?_
    rw [V2.out]
    rintro e w2 ⟨rfl, hb2⟩
    have hb2' := HB1.out.trans (hb2.mono HB1.out.size)
    clear hc1 hf1
    obtain ⟨hc2, hf2⟩ := bcell4 hb2'
    have hh2 := HH.out _ _ _ _ hb2'
    have HB2 := Lib.hid hb2'
    clear hb2 hb2'
    go_wp2_with fail
    refine (compare_r _ _ _ _ _ _ _ _ HZ.out _).mono ?_
    rintro e w3 ⟨rfl, hb3⟩
    have hb3' := HB2.out.trans (hb3.mono HB2.out.size)
    clear hc2 hf2
    obtain ⟨hc3, hf3⟩ := bcell4 hb3'
    have hh3 := HH.out _ _ _ _ hb3'
    have HB3 := Lib.hid hb3'
    clear hb3 hb3'
    go_wp2_with fail
    refine (truth_r _ _).mono ?_
    rintro e w4 ⟨rfl, hb4⟩
    have hb4' := HB3.out.trans (hb4.mono HB3.out.size)
    clear hc3 hf3
    obtain ⟨hc4, hf4⟩ := bcell4 hb4'
    have hh4 := HH.out _ _ _ _ hb4'
    go_wp2
    refine bodyPost_ret (v := .tuple #[.agg #[.int .i64 3, .int .i64 0, .string ⟨#[]⟩, .bool _], .int .i64 0]) (by simp [results, Tryd.results25, go_sem, hc4]; rfl) rfl ?_
    refine ⟨rfl, ?_⟩
    repeat (first | exact hh4.1 | apply Below.drew | refine Below.setCell ?_ (by show w.heap.size ≤ w.heap.size + 1 + 1; omega) _ | refine Below.alloc ?_ (by first | omega | (simp [World.setCell]; done) | (simp [World.setCell]; omega)) _)
theorem u64_add (a b : Int) : wrap64 (IntKind.u64.wrap (IntKind.u64.wrap a + IntKind.u64.wrap b)) = wrap64 (a + b) := by
  rw [u64_mod, u64_mod, u64_mod]
  unfold wrap64
  omega
theorem u64_sub (a b : Int) : wrap64 (IntKind.u64.wrap (IntKind.u64.wrap a - IntKind.u64.wrap b)) = wrap64 (a + wrap64 (-b)) := by
  rw [u64_mod, u64_mod, u64_mod]
  unfold wrap64
  omega
theorem u64_mul (a b x q : Int) (h : x = IntKind.u64.wrap a * IntKind.u64.wrap b - q * 18446744073709551616) : wrap64 x = wrap64 (a * b) := by
  apply wrap_eq
  rw [h, u64_mod, u64_mod, Int.sub_mul_emod_self_right, ← Int.mul_emod]
def SumsI (op n n' : Int) : Int := reckonI op n n'
set_option maxRecDepth 100000 in
theorem binary_r7 (op : Int) (n : Int) (s : ByteArray) (b : Bool) (n' : Int) (s' : ByteArray) (b' : Bool) (ho : op = 3 ∨ op = 4) (v1 : valid 1 n s b = true) (v2 : valid 1 n' s' b' = true) (hz : s.size ≤ maxLen) (w : World) : BinR op 1 n s b 1 n' s' b' w 0 1 (reckonI op n n') ⟨#[]⟩ false := by
  have r3 : reckonI 3 n n' = wrap64 (n + n') := rec3 n n'
  have r4 : reckonI 4 n n' = wrap64 (n + wrap64 (-n')) := by unfold reckonI; rw [if_pos (by omega)]
  have a1 := u64_add n n'
  have a2 := u64_sub n n'
  have R3 := Lib.hid r3
  have R4 := Lib.hid r4
  have A1 := Lib.hid a1
  have A2 := Lib.hid a2
  clear r3 r4 a1 a2
  unfold BinR
  have HH : Hid (∀ (o1 o2 o3 : Obj) (w1 : World), Below (((w.alloc o1).alloc o2).alloc o3).heap.size (((w.alloc o1).alloc o2).alloc o3) w1 → Below w.heap.size w w1 ∧ w.heap.size + 1 + 1 < w1.heap.size) := fun o1 o2 o3 w1 h => ⟨((((Below.refl _ _).alloc (Nat.le_refl _) o1).alloc (by simp) o2).alloc (by simp; omega) o3).trans (h.mono (by simp; omega)), by have := h.size; simp at this; omega⟩
  have t0 : w.heap.size < w.heap.size + 1 + 1 + 1 := by omega
  have t1 : w.heap.size + 1 < w.heap.size + 1 + 1 + 1 := by omega
  have V1 := Lib.hid v1
  have V2 := Lib.hid v2
  have HZ := Lib.hid hz
  clear v1 v2 hz
  rcases ho with rfl | rfl
  all_goals
    go_enter Tryd.func25, Tryd.ntmps25
    go_wp2_with fail
    refine (valid_r _ _ _ _ _).mono ?_
    rw [V1.out]
    rintro e w1 ⟨rfl, hb1⟩
    obtain ⟨hc1, hf1⟩ := bcell hb1
    have HB1 := Lib.hid hb1
    clear hb1
    go_wp2_with fail
    refine (valid_r _ _ _ _ _).mono ?_
    rw [V2.out]
    rintro e w2 ⟨rfl, hb2⟩
    have hb2' := HB1.out.trans (hb2.mono HB1.out.size)
    clear hc1 hf1
    obtain ⟨hc2, hf2⟩ := bcell4 hb2'
    have hh2 := HH.out _ _ _ _ hb2'
    have HB2 := Lib.hid hb2'
    clear hb2 hb2'
    go_wp2_with fail
    refine (compare_r _ _ _ _ _ _ _ _ HZ.out _).mono ?_
    rintro e w3 ⟨rfl, hb3⟩
    have hb3' := HB2.out.trans (hb3.mono HB2.out.size)
    clear hc2 hf2
    obtain ⟨hc3, hf3⟩ := bcell4 hb3'
    have hh3 := HH.out _ _ _ _ hb3'
    have HB3 := Lib.hid hb3'
    clear hb3 hb3'
    go_wp2_with fail
    refine (number_r _ _).mono ?_
    rintro e w4 ⟨rfl, hb4⟩
    have hb4' := HB3.out.trans (hb4.mono HB3.out.size)
    clear hc3 hf3
    obtain ⟨hc4, hf4⟩ := bcell4 hb4'
    have hh4 := HH.out _ _ _ _ hb4'
    go_wp2
    first | rw [R3.out, ← A1.out] | rw [R4.out, ← A2.out]
    refine bodyPost_ret (v := .tuple #[.agg #[.int .i64 1, .int .i64 _, .string ⟨#[]⟩, .bool false], .int .i64 0]) (by simp [results, Tryd.results25, go_sem, hc4]; rfl) rfl ?_
    refine ⟨rfl, ?_⟩
    repeat (first | exact hh4.1 | apply Below.drew | refine Below.setCell ?_ (by show w.heap.size ≤ w.heap.size + 1 + 1; omega) _ | refine Below.alloc ?_ (by first | omega | (simp [World.setCell]; done) | (simp [World.setCell]; omega)) _)
set_option maxRecDepth 100000 in
theorem binary_r8 (n : Int) (s : ByteArray) (b : Bool) (n' : Int) (s' : ByteArray) (b' : Bool) (v1 : valid 1 n s b = true) (v2 : valid 1 n' s' b' = true) (hz : s.size ≤ maxLen) (w : World) : BinR 5 1 n s b 1 n' s' b' w 0 1 (reckonI 5 n n') ⟨#[]⟩ false := by
  have R5 := Lib.hid (rec5 n n')
  unfold BinR
  have HH : Hid (∀ (o1 o2 o3 : Obj) (w1 : World), Below (((w.alloc o1).alloc o2).alloc o3).heap.size (((w.alloc o1).alloc o2).alloc o3) w1 → Below w.heap.size w w1 ∧ w.heap.size + 1 + 1 < w1.heap.size) := fun o1 o2 o3 w1 h => ⟨((((Below.refl _ _).alloc (Nat.le_refl _) o1).alloc (by simp) o2).alloc (by simp; omega) o3).trans (h.mono (by simp; omega)), by have := h.size; simp at this; omega⟩
  have t0 : w.heap.size < w.heap.size + 1 + 1 + 1 := by omega
  have t1 : w.heap.size + 1 < w.heap.size + 1 + 1 + 1 := by omega
  have V1 := Lib.hid v1
  have V2 := Lib.hid v2
  have HZ := Lib.hid hz
  clear v1 v2 hz
  go_enter Tryd.func25, Tryd.ntmps25
  go_wp2_with fail
  refine (valid_r _ _ _ _ _).mono ?_
  rw [V1.out]
  rintro e w1 ⟨rfl, hb1⟩
  obtain ⟨hc1, hf1⟩ := bcell hb1
  have HB1 := Lib.hid hb1
  clear hb1
  go_wp2_with fail
  refine (valid_r _ _ _ _ _).mono ?_
  rw [V2.out]
  rintro e w2 ⟨rfl, hb2⟩
  have hb2' := HB1.out.trans (hb2.mono HB1.out.size)
  clear hc1 hf1
  obtain ⟨hc2, hf2⟩ := bcell4 hb2'
  have hh2 := HH.out _ _ _ _ hb2'
  have HB2 := Lib.hid hb2'
  clear hb2 hb2'
  go_wp2_with fail
  refine (compare_r _ _ _ _ _ _ _ _ HZ.out _).mono ?_
  rintro e w3 ⟨rfl, hb3⟩
  have hb3' := HB2.out.trans (hb3.mono HB2.out.size)
  clear hc2 hf2
  obtain ⟨hc3, hf3⟩ := bcell4 hb3'
  have hh3 := HH.out _ _ _ _ hb3'
  have HB3 := Lib.hid hb3'
  clear hb3 hb3'
  go_wp2_with fail
  refine (times_r _ _ (by rw [u64_mod]; omega) (by rw [u64_mod]; omega) (by rw [u64_mod]; omega) (by rw [u64_mod]; omega) _).mono ?_
  rintro e w5 ⟨x, rfl, hw5, qq, hx⟩
  obtain rfl := hw5.symm
  have HX := Lib.hid (u64_mul n n' x qq hx)
  clear hx
  go_wp2_with fail
  refine (number_r _ _).mono ?_
  rintro e w4 ⟨rfl, hb4⟩
  have hb4' := HB3.out.trans (hb4.mono HB3.out.size)
  clear hc3 hf3
  obtain ⟨hc4, hf4⟩ := bcell4 hb4'
  have hh4 := HH.out _ _ _ _ hb4'
  go_wp2
  rw [R5.out, ← HX.out]
  refine bodyPost_ret (v := .tuple #[.agg #[.int .i64 1, .int .i64 _, .string ⟨#[]⟩, .bool false], .int .i64 0]) (by simp [results, Tryd.results25, go_sem, hc4]; rfl) rfl ?_
  refine ⟨rfl, ?_⟩
  repeat (first | exact hh4.1 | apply Below.drew | refine Below.setCell ?_ (by show w.heap.size ≤ w.heap.size + 1 + 1; omega) _ | refine Below.alloc ?_ (by first | omega | (simp [World.setCell]; done) | (simp [World.setCell]; omega)) _)
end Go.Proofs.YtcjibjiojgikjaaDoor
