/- Contract of the document's own answer's Unary. -/
import Derived.Test.YtcjibjiojgikjaaDoorE1
import Derived.Test.YtcjibjiojgikjaaDoorE5
import Derived.Test.YtcjibjiojgikjaaDoorE6
import Derived.WalkKit
import Derived.WalkSpells
import Derived.WalkLawsBesides
import Derived.Lib.Hide
namespace Go.Proofs.YtcjibjiojgikjaaDoor
open Go Go.RowKit
set_option maxHeartbeats 1000000
set_option linter.unusedVariables false
set_option linter.unusedSimpArgs false
def UnR (op k n : Int) (s : ByteArray) (b : Bool) (E K N : Int) (S : ByteArray) (T : Bool) : Prop := unE op k n s b = E ∧ unV op k n s b = (K, N, S, T)
theorem u64_mod (x : Int) : IntKind.u64.wrap x = x % 18446744073709551616 := rfl
theorem u64_neg (n : Int) : wrap64 (IntKind.u64.wrap (-IntKind.u64.wrap n)) = wrap64 (wrap64 (-n)) := by
  rw [u64_mod, u64_mod]
  unfold wrap64
  omega
set_option maxRecDepth 100000 in
theorem unary_r1 (op k n : Int) (s : ByteArray) (b : Bool) (h1 : op ≠ 1) (h2 : op ≠ 2) (w : World) : Calls Tryd.prog 26 #[.int .i64 op, .agg #[.int .i64 k, .int .i64 n, .string s, .bool b]] w
    fun e w' => e = .returned (.tuple #[.agg #[.int .i64 0, .int .i64 0, .string ⟨#[]⟩, .bool false], .int .i64 11]) ∧ Below w.heap.size w w' := by
  have q1 : (op != 1) = true := by simp [h1]
  have q2 : (op != 2) = true := by simp [h2]
  clear h1 h2
  go_enter Tryd.func26, Tryd.ntmps26
  go_wp2
  refine bodyPost_ret (v := .tuple #[.agg #[.int .i64 0, .int .i64 0, .string ⟨#[]⟩, .bool false], .int .i64 11]) (by simp [results, Tryd.results26, go_sem]) rfl ?_
  refine ⟨rfl, ?_⟩
  repeat (first | exact Below.refl _ _ | apply Below.drew | refine Below.setCell ?_ (by show w.heap.size ≤ w.heap.size + 1; omega) _ | refine Below.alloc ?_ (by first | omega | (simp [World.setCell]; done) | (simp [World.setCell]; omega)) _)
set_option maxRecDepth 100000 in
theorem unary_r2 (op k n : Int) (s : ByteArray) (b : Bool) (ho : op = 1 ∨ op = 2) (hv : valid k n s b = false) (w : World) : Calls Tryd.prog 26 #[.int .i64 op, .agg #[.int .i64 k, .int .i64 n, .string s, .bool b]] w
    fun e w' => e = .returned (.tuple #[.agg #[.int .i64 0, .int .i64 0, .string ⟨#[]⟩, .bool false], .int .i64 12]) ∧ Below w.heap.size w w' := by
  have HV := Lib.hid hv
  clear hv
  rcases ho with rfl | rfl
  all_goals
    go_enter Tryd.func26, Tryd.ntmps26
    go_wp2_with fail
    refine (valid_r _ _ _ _ _).mono ?_
    rw [HV.out]
    rintro e w1 ⟨rfl, hb1⟩
    obtain ⟨hc1, hf1⟩ := bcell hb1
    have hB1 : Below w.heap.size w w1 := (((Below.refl _ _).alloc (Nat.le_refl _) _).alloc (by simp) _).trans (hb1.mono (by simp; omega))
    have hz1 : w.heap.size < w.heap.size + 1 + 1 := by omega
    have hz2 := hb1.size
    simp at hz2
    have hz3 : w.heap.size + 1 < w1.heap.size := by omega
    go_wp2
    refine bodyPost_ret (v := .tuple #[.agg #[.int .i64 0, .int .i64 0, .string ⟨#[]⟩, .bool false], .int .i64 12]) (by simp [results, Tryd.results26, go_sem, hz1, hz3, hc1]) rfl ?_
    refine ⟨rfl, ?_⟩
    repeat (first | exact hB1 | apply Below.drew | refine Below.setCell ?_ (by show w.heap.size ≤ w.heap.size + 1; omega) _ | refine Below.alloc ?_ (by first | omega | (simp [World.setCell]; done) | (simp [World.setCell]; omega)) _)
set_option maxRecDepth 100000 in
theorem unary_r3 (n : Int) (s : ByteArray) (b : Bool) (hv : valid 1 n s b = true) (w : World) : Calls Tryd.prog 26 #[.int .i64 1, .agg #[.int .i64 1, .int .i64 n, .string s, .bool b]] w
    fun e w' => e = .returned (.tuple #[.agg #[.int .i64 1, .int .i64 (wrap64 (0 + wrap64 (-n))), .string ⟨#[]⟩, .bool false], .int .i64 0]) ∧ Below w.heap.size w w' := by
    have HV := Lib.hid hv
    clear hv
    go_enter Tryd.func26, Tryd.ntmps26
    go_wp2_with (first | (go_at_call 21; refine (valid_r _ _ _ _ _).mono ?_; rw [HV.out]; rintro e w1 ⟨rfl, hb1⟩; obtain ⟨hc1, hf1⟩ := bcell hb1; have hB1 : Below w.heap.size w w1 := (((Below.refl _ _).alloc (Nat.le_refl _) _).alloc (by simp) _).trans (hb1.mono (by simp; omega)); have hz1 : w.heap.size < w.heap.size + 1 + 1 := (by omega); have hz2 := hb1.size; simp at hz2; have hz3 : w.heap.size + 1 < w1.heap.size := (by omega); have hz4 : w.heap.size < w1.heap.size := (by omega)) | (go_at_call 47; refine (number_r _ _).mono ?_; rintro e w2 ⟨rfl, hb2⟩; obtain ⟨hc2, hf2⟩ := bcell hb2; have hB2 : Below w.heap.size w w2 := hB1.trans (hb2.mono hB1.size); have hz5 := hb2.size; have hz6 : w.heap.size + 1 < w2.heap.size := (by omega)))
    have hw : wrap64 (IntKind.u64.wrap (-IntKind.u64.wrap n)) = wrap64 (wrap64 (-n)) := u64_neg n
    refine bodyPost_ret (v := .tuple #[.agg #[.int .i64 1, .int .i64 (wrap64 (0 + wrap64 (-n))), .string ⟨#[]⟩, .bool false], .int .i64 0]) (by simp [results, Tryd.results26, go_sem, hz1, hz3, hz6, hc2, hc1, hw]) rfl ?_
    refine ⟨rfl, ?_⟩
    repeat (first | exact hB2 | apply Below.drew | refine Below.setCell ?_ (by show w.heap.size ≤ w.heap.size + 1; omega) _ | refine Below.alloc ?_ (by first | omega | (simp [World.setCell]; done) | (simp [World.setCell]; omega)) _)
set_option maxRecDepth 100000 in
theorem unary_r4 (n : Int) (s : ByteArray) (b : Bool) (hv : valid 3 n s b = true) (w : World) : Calls Tryd.prog 26 #[.int .i64 2, .agg #[.int .i64 3, .int .i64 n, .string s, .bool b]] w
    fun e w' => e = .returned (.tuple #[.agg #[.int .i64 3, .int .i64 0, .string ⟨#[]⟩, .bool (!b)], .int .i64 0]) ∧ Below w.heap.size w w' := by
    have HV := Lib.hid hv
    clear hv
    go_enter Tryd.func26, Tryd.ntmps26
    go_wp2_with (first | (go_at_call 21; refine (valid_r _ _ _ _ _).mono ?_; rw [HV.out]; rintro e w1 ⟨rfl, hb1⟩; obtain ⟨hc1, hf1⟩ := bcell hb1; have hB1 : Below w.heap.size w w1 := (((Below.refl _ _).alloc (Nat.le_refl _) _).alloc (by simp) _).trans (hb1.mono (by simp; omega)); have hz1 : w.heap.size < w.heap.size + 1 + 1 := (by omega); have hz2 := hb1.size; simp at hz2; have hz3 : w.heap.size + 1 < w1.heap.size := (by omega); have hz4 : w.heap.size < w1.heap.size := (by omega)) | (go_at_call 46; refine (truth_r _ _).mono ?_; rintro e w2 ⟨rfl, hb2⟩; obtain ⟨hc2, hf2⟩ := bcell hb2; have hB2 : Below w.heap.size w w2 := hB1.trans (hb2.mono hB1.size); have hz5 := hb2.size; have hz6 : w.heap.size + 1 < w2.heap.size := (by omega)))
    refine bodyPost_ret (v := .tuple #[.agg #[.int .i64 3, .int .i64 0, .string ⟨#[]⟩, .bool (!b)], .int .i64 0]) (by simp [results, Tryd.results26, go_sem, hz1, hz3, hz6, hc2, hc1]) rfl ?_
    refine ⟨rfl, ?_⟩
    repeat (first | exact hB2 | apply Below.drew | refine Below.setCell ?_ (by show w.heap.size ≤ w.heap.size + 1; omega) _ | refine Below.alloc ?_ (by first | omega | (simp [World.setCell]; done) | (simp [World.setCell]; omega)) _)
set_option maxRecDepth 100000 in
theorem unary_r5 (op k n : Int) (s : ByteArray) (b : Bool) (ho : (op = 1 ∧ (k = 2 ∨ k = 3)) ∨ (op = 2 ∧ (k = 1 ∨ k = 2))) (hv : valid k n s b = true) (w : World) : Calls Tryd.prog 26 #[.int .i64 op, .agg #[.int .i64 k, .int .i64 n, .string s, .bool b]] w
    fun e w' => e = .returned (.tuple #[.agg #[.int .i64 0, .int .i64 0, .string ⟨#[]⟩, .bool false], .int .i64 10]) ∧ Below w.heap.size w w' := by
  have HV := Lib.hid hv
  clear hv
  rcases ho with ⟨rfl, rfl | rfl⟩ | ⟨rfl, rfl | rfl⟩
  all_goals
    go_enter Tryd.func26, Tryd.ntmps26
    go_wp2_with (first | (go_at_call 21; refine (valid_r _ _ _ _ _).mono ?_; rw [HV.out]; rintro e w1 ⟨rfl, hb1⟩; obtain ⟨hc1, hf1⟩ := bcell hb1; have hB1 : Below w.heap.size w w1 := (((Below.refl _ _).alloc (Nat.le_refl _) _).alloc (by simp) _).trans (hb1.mono (by simp; omega)); have hz1 : w.heap.size < w.heap.size + 1 + 1 := (by omega); have hz2 := hb1.size; simp at hz2; have hz3 : w.heap.size + 1 < w1.heap.size := (by omega); have hz4 : w.heap.size < w1.heap.size := (by omega)) | (go_at_call 46; refine (truth_r _ _).mono ?_; rintro e w2 ⟨rfl, hb2⟩; obtain ⟨hc2, hf2⟩ := bcell hb2; have hB2 : Below w.heap.size w w2 := hB1.trans (hb2.mono hB1.size); have hz5 := hb2.size; have hz6 : w.heap.size + 1 < w2.heap.size := (by omega)))
    refine bodyPost_ret (v := .tuple #[.agg #[.int .i64 0, .int .i64 0, .string ⟨#[]⟩, .bool false], .int .i64 10]) (by simp [results, Tryd.results26, go_sem, hz1, hz3, hc1]) rfl ?_
    refine ⟨rfl, ?_⟩
    repeat (first | exact hB1 | apply Below.drew | refine Below.setCell ?_ (by show w.heap.size ≤ w.heap.size + 1; omega) _ | refine Below.alloc ?_ (by first | omega | (simp [World.setCell]; done) | (simp [World.setCell]; omega)) _)
theorem unary_r (op k n : Int) (s : ByteArray) (b : Bool) (w : World) : Calls Tryd.prog 26 #[.int .i64 op, .agg #[.int .i64 k, .int .i64 n, .string s, .bool b]] w
    fun e w' => e = .returned (.tuple #[.agg #[.int .i64 (unV op k n s b).1, .int .i64 (unV op k n s b).2.1, .string (unV op k n s b).2.2.1, .bool (unV op k n s b).2.2.2], .int .i64 (unE op k n s b)]) ∧ Below w.heap.size w w' := by
  have close : ∀ {E K N : Int} {S : ByteArray} {T : Bool}, unE op k n s b = E → unV op k n s b = (K, N, S, T) → Calls Tryd.prog 26 #[.int .i64 op, .agg #[.int .i64 k, .int .i64 n, .string s, .bool b]] w (fun e w' => e = .returned (.tuple #[.agg #[.int .i64 K, .int .i64 N, .string S, .bool T], .int .i64 E]) ∧ Below w.heap.size w w') → Calls Tryd.prog 26 #[.int .i64 op, .agg #[.int .i64 k, .int .i64 n, .string s, .bool b]] w (fun e w' => e = .returned (.tuple #[.agg #[.int .i64 (unV op k n s b).1, .int .i64 (unV op k n s b).2.1, .string (unV op k n s b).2.2.1, .bool (unV op k n s b).2.2.2], .int .i64 (unE op k n s b)]) ∧ Below w.heap.size w w') := by
    intro E K N S T h1 h2 h3
    rw [h1, h2]
    exact h3
  have zero : ∀ {E : Int}, unE op k n s b = E → E ≠ 0 → unV op k n s b = (0, 0, ⟨#[]⟩, false) := by
    intro E h1 h2
    unfold unV
    rw [if_neg (by rw [h1]; exact h2)]
  by_cases h1 : op = 1 ∨ op = 2
  · cases hv : valid k n s b
    · have hE : unE op k n s b = 12 := by unfold unE; rw [if_pos h1, if_neg (by rw [hv]; decide)]
      exact close hE (zero hE (by decide)) (unary_r2 op k n s b h1 hv w)
    · rcases valid_kind hv with rfl | rfl | rfl <;> rcases h1 with rfl | rfl
      · have hE : unE 1 1 n s b = 0 := by unfold unE; rw [if_pos (by omega), if_pos hv, if_neg (by decide)]
        exact close hE (by unfold unV; rw [if_pos hE, if_pos rfl]) (unary_r3 n s b hv w)
      · have hE : unE 2 1 n s b = 10 := by unfold unE; rw [if_pos (by omega), if_pos hv, if_pos (by decide)]
        exact close hE (zero hE (by decide)) (unary_r5 2 1 n s b (by omega) hv w)
      · have hE : unE 1 2 n s b = 10 := by unfold unE; rw [if_pos (by omega), if_pos hv, if_pos (by decide)]
        exact close hE (zero hE (by decide)) (unary_r5 1 2 n s b (by omega) hv w)
      · have hE : unE 2 2 n s b = 10 := by unfold unE; rw [if_pos (by omega), if_pos hv, if_pos (by decide)]
        exact close hE (zero hE (by decide)) (unary_r5 2 2 n s b (by omega) hv w)
      · have hE : unE 1 3 n s b = 10 := by unfold unE; rw [if_pos (by omega), if_pos hv, if_pos (by decide)]
        exact close hE (zero hE (by decide)) (unary_r5 1 3 n s b (by omega) hv w)
      · have hE : unE 2 3 n s b = 0 := by unfold unE; rw [if_pos (by omega), if_pos hv, if_neg (by decide)]
        exact close hE (by unfold unV; rw [if_pos hE, if_neg (by decide)]) (unary_r4 n s b hv w)
  · have hE : unE op k n s b = 11 := by unfold unE; rw [if_neg h1]
    exact close hE (zero hE (by decide)) (unary_r1 op k n s b (by omega) (by omega) w)
end Go.Proofs.YtcjibjiojgikjaaDoor
