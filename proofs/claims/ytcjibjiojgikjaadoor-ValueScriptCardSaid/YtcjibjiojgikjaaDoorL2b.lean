/- Contracts of value.refusal: two values. -/
import Derived.Test.YtcjibjiojgikjaaDoorL2a
import Derived.WalkKit
import Derived.WalkSpells
import Derived.WalkLawsBesides
import Derived.Lib.Hide
import Derived.BigQuiet
import Derived.LoopN
import Derived.Deep.QuietTactic
import Derived.Deep.RegionWith
namespace Go.Proofs.YtcjibjiojgikjaaDoor
open Go Go.RowKit
set_option maxHeartbeats 400000
set_option linter.unusedVariables false
set_option linter.unusedSimpArgs false
theorem refusal2_a (w : World) (o B : Nat) (h : o < 14) (ks k n : Int) (s : ByteArray) (b : Bool) (k' n' : Int) (s' : ByteArray) (b' : Bool)
   (h0 : 0 < w.heap.size) (hB : B < w.heap.size)
   (ha : w.cell? ⟨0, o * 3, none⟩ = some (.int .i64 2)) (hk : w.cell? ⟨0, o * 3 + 1, none⟩ = some (.int .i64 ks))
   (c0 : w.cell? ⟨B, 0, none⟩ = some (.int .i64 k)) (c1 : w.cell? ⟨B, 1, none⟩ = some (.int .i64 n)) (c2 : w.cell? ⟨B, 2, none⟩ = some (.string s)) (c3 : w.cell? ⟨B, 3, none⟩ = some (.bool b))
   (c4 : w.cell? ⟨B, 4, none⟩ = some (.int .i64 k')) (c5 : w.cell? ⟨B, 5, none⟩ = some (.int .i64 n')) (c6 : w.cell? ⟨B, 6, none⟩ = some (.string s')) (c7 : w.cell? ⟨B, 7, none⟩ = some (.bool b'))
   (hv : valid k n s b = false) : Calls Tryd.prog 38 #[.int .i64 o, .slice (some ⟨B, 0, none⟩) 2 2] w fun e w' => e = .returned (.int .i64 12) ∧ Below w.heap.size w w' := by
  have d1 : decide ((o : Int) < 0) = false := by simp
  have d2 : decide (14 ≤ (o : Int)) = false := by simp; omega
  go_enter Tryd.func38, Tryd.ntmps38
  go_wp2
  refine wp_loop_rounds 3 ?_
  rw [rounds_succ]
  go_wp2_with (go_at_call 13; refine (valid_any _ _ _ _ _).mono ?_; rintro e w1 ⟨rfl, hb1⟩; obtain ⟨hc1, hf1⟩ := bcell hb1; have hz1 := bsize hb1; have hB1 : B < w1.heap.size := (by omega); have h01 : 0 < w1.heap.size := (by omega))
  go_ret
  exact ⟨rfl, ((Below.refl _ _).alloc (Nat.le_refl _) _).trans (hb1.mono (by simp))⟩
theorem refusal2_b (w : World) (o B : Nat) (h : o < 14) (ks k n : Int) (s : ByteArray) (b : Bool) (k' n' : Int) (s' : ByteArray) (b' : Bool)
   (h0 : 0 < w.heap.size) (hB : B < w.heap.size)
   (ha : w.cell? ⟨0, o * 3, none⟩ = some (.int .i64 2)) (hk : w.cell? ⟨0, o * 3 + 1, none⟩ = some (.int .i64 ks))
   (c0 : w.cell? ⟨B, 0, none⟩ = some (.int .i64 k)) (c1 : w.cell? ⟨B, 1, none⟩ = some (.int .i64 n)) (c2 : w.cell? ⟨B, 2, none⟩ = some (.string s)) (c3 : w.cell? ⟨B, 3, none⟩ = some (.bool b))
   (c4 : w.cell? ⟨B, 4, none⟩ = some (.int .i64 k')) (c5 : w.cell? ⟨B, 5, none⟩ = some (.int .i64 n')) (c6 : w.cell? ⟨B, 6, none⟩ = some (.string s')) (c7 : w.cell? ⟨B, 7, none⟩ = some (.bool b'))
   (hv : valid k n s b = true) (hv' : valid k' n' s' b' = false) : Calls Tryd.prog 38 #[.int .i64 o, .slice (some ⟨B, 0, none⟩) 2 2] w fun e w' => e = .returned (.int .i64 12) ∧ Below w.heap.size w w' := by
  have d1 : decide ((o : Int) < 0) = false := by simp
  have d2 : decide (14 ≤ (o : Int)) = false := by simp; omega
  go_enter Tryd.func38, Tryd.ntmps38
  go_wp2
  refine wp_loop_rounds 3 ?_
  rw [rounds_succ]
  go_wp2_with (go_at_call 13; refine (valid_any _ _ _ _ _).mono ?_; rintro e w1 ⟨rfl, hb1⟩; obtain ⟨hc1, hf1⟩ := bcell hb1; have hz1 := bsize hb1; have hB1 : B < w1.heap.size := (by omega); have h01 : 0 < w1.heap.size := (by omega))
  rw [rounds_succ]
  go_wp2_with (go_at_call 13; refine (valid_any _ _ _ _ _).mono ?_; rintro e w2 ⟨rfl, hb2⟩; obtain ⟨hc2, hf2⟩ := bcell hb2; have hz2 := bsize hb2; have hB2 : B < w2.heap.size := (by omega); have h02 : 0 < w2.heap.size := (by omega))
  go_ret
  exact ⟨rfl, ((((Below.refl _ _).alloc (Nat.le_refl _) _).trans (hb1.mono (by simp))).alloc (by omega) _).trans (hb2.mono (by simp; omega))⟩
attribute [local go_sem ↓] shl1_k and_p2
theorem refusal2_c (w : World) (o B : Nat) (h : o < 14) (ks k n : Int) (s : ByteArray) (b : Bool) (k' n' : Int) (s' : ByteArray) (b' : Bool)
   (h0 : 0 < w.heap.size) (hB : B < w.heap.size)
   (ha : w.cell? ⟨0, o * 3, none⟩ = some (.int .i64 2)) (hk : w.cell? ⟨0, o * 3 + 1, none⟩ = some (.int .i64 ks))
   (c0 : w.cell? ⟨B, 0, none⟩ = some (.int .i64 k)) (c1 : w.cell? ⟨B, 1, none⟩ = some (.int .i64 n)) (c2 : w.cell? ⟨B, 2, none⟩ = some (.string s)) (c3 : w.cell? ⟨B, 3, none⟩ = some (.bool b))
   (c4 : w.cell? ⟨B, 4, none⟩ = some (.int .i64 k')) (c5 : w.cell? ⟨B, 5, none⟩ = some (.int .i64 n')) (c6 : w.cell? ⟨B, 6, none⟩ = some (.string s')) (c7 : w.cell? ⟨B, 7, none⟩ = some (.bool b'))
   (hkk : KindOk k) (hbk : (kb ks k == 0) = true) (hv : valid k n s b = true) (hv' : valid k' n' s' b' = true) : Calls Tryd.prog 38 #[.int .i64 o, .slice (some ⟨B, 0, none⟩) 2 2] w fun e w' => e = .returned (.int .i64 10) ∧ Below w.heap.size w w' := by
  have d1 : decide ((o : Int) < 0) = false := by simp
  have d2 : decide (14 ≤ (o : Int)) = false := by simp; omega
  go_enter Tryd.func38, Tryd.ntmps38
  go_wp2
  refine wp_loop_rounds 3 ?_
  rw [rounds_succ]
  go_wp2_with (go_at_call 13; refine (valid_any _ _ _ _ _).mono ?_; rintro e w1 ⟨rfl, hb1⟩; obtain ⟨hc1, hf1⟩ := bcell hb1; have hz1 := bsize hb1; have hB1 : B < w1.heap.size := (by omega); have h01 : 0 < w1.heap.size := (by omega))
  rw [rounds_succ]
  go_wp2_with (go_at_call 13; refine (valid_any _ _ _ _ _).mono ?_; rintro e w2 ⟨rfl, hb2⟩; obtain ⟨hc2, hf2⟩ := bcell hb2; have hz2 := bsize hb2; have hB2 : B < w2.heap.size := (by omega); have h02 : 0 < w2.heap.size := (by omega))
  rw [rounds_succ]
  go_wp2
  refine wp_loop_rounds 3 ?_
  rw [rounds_succ]
  go_wp2
  go_quiet (fail)
  go_wp2
  have hbb : Below w.heap.size w w2 := ((((Below.refl _ _).alloc (Nat.le_refl _) _).trans (hb1.mono (by simp))).alloc (by omega) _).trans (hb2.mono (by simp; omega))
  go_ret
  refine ⟨rfl, ?_⟩
  repeat (first | exact hbb | apply Below.drew | apply below_drewN | refine Below.alloc ?_ (by first | omega | (simp; done) | (simp; omega)) _)
theorem refusal2_d (w : World) (o B : Nat) (h : o < 14) (ks k n : Int) (s : ByteArray) (b : Bool) (k' n' : Int) (s' : ByteArray) (b' : Bool)
   (h0 : 0 < w.heap.size) (hB : B < w.heap.size)
   (ha : w.cell? ⟨0, o * 3, none⟩ = some (.int .i64 2)) (hk : w.cell? ⟨0, o * 3 + 1, none⟩ = some (.int .i64 ks))
   (c0 : w.cell? ⟨B, 0, none⟩ = some (.int .i64 k)) (c1 : w.cell? ⟨B, 1, none⟩ = some (.int .i64 n)) (c2 : w.cell? ⟨B, 2, none⟩ = some (.string s)) (c3 : w.cell? ⟨B, 3, none⟩ = some (.bool b))
   (c4 : w.cell? ⟨B, 4, none⟩ = some (.int .i64 k')) (c5 : w.cell? ⟨B, 5, none⟩ = some (.int .i64 n')) (c6 : w.cell? ⟨B, 6, none⟩ = some (.string s')) (c7 : w.cell? ⟨B, 7, none⟩ = some (.bool b'))
   (hkk : KindOk k) (hkk' : KindOk k') (hbk : (kb ks k == 0) = false) (hbk' : (kb ks k' == 0) = true) (hv : valid k n s b = true) (hv' : valid k' n' s' b' = true) : Calls Tryd.prog 38 #[.int .i64 o, .slice (some ⟨B, 0, none⟩) 2 2] w fun e w' => e = .returned (.int .i64 10) ∧ Below w.heap.size w w' := by
  have d1 : decide ((o : Int) < 0) = false := by simp
  have d2 : decide (14 ≤ (o : Int)) = false := by simp; omega
  go_enter Tryd.func38, Tryd.ntmps38
  go_wp2
  refine wp_loop_rounds 3 ?_
  rw [rounds_succ]
  go_wp2_with (go_at_call 13; refine (valid_any _ _ _ _ _).mono ?_; rintro e w1 ⟨rfl, hb1⟩; obtain ⟨hc1, hf1⟩ := bcell hb1; have hz1 := bsize hb1; have hB1 : B < w1.heap.size := (by omega); have h01 : 0 < w1.heap.size := (by omega))
  rw [rounds_succ]
  go_wp2_with (go_at_call 13; refine (valid_any _ _ _ _ _).mono ?_; rintro e w2 ⟨rfl, hb2⟩; obtain ⟨hc2, hf2⟩ := bcell hb2; have hz2 := bsize hb2; have hB2 : B < w2.heap.size := (by omega); have h02 : 0 < w2.heap.size := (by omega))
  rw [rounds_succ]
  go_wp2
  refine wp_loop_rounds 3 ?_
  rw [rounds_succ]
  go_wp2
  go_quiet (fail)
  go_wp2
  rw [rounds_succ]
  go_wp2
  go_quiet (fail)
  go_wp2
  have hbb : Below w.heap.size w w2 := ((((Below.refl _ _).alloc (Nat.le_refl _) _).trans (hb1.mono (by simp))).alloc (by omega) _).trans (hb2.mono (by simp; omega))
  go_ret
  refine ⟨rfl, ?_⟩
  repeat (first | exact hbb | apply Below.drew | apply below_drewN | refine Below.alloc ?_ (by first | omega | (simp; done) | (simp; omega)) _)
theorem refusal2_e (w : World) (o B : Nat) (h : o < 14) (ks k n : Int) (s : ByteArray) (b : Bool) (k' n' : Int) (s' : ByteArray) (b' : Bool)
   (h0 : 0 < w.heap.size) (hB : B < w.heap.size)
   (ha : w.cell? ⟨0, o * 3, none⟩ = some (.int .i64 2)) (hk : w.cell? ⟨0, o * 3 + 1, none⟩ = some (.int .i64 ks))
   (c0 : w.cell? ⟨B, 0, none⟩ = some (.int .i64 k)) (c1 : w.cell? ⟨B, 1, none⟩ = some (.int .i64 n)) (c2 : w.cell? ⟨B, 2, none⟩ = some (.string s)) (c3 : w.cell? ⟨B, 3, none⟩ = some (.bool b))
   (c4 : w.cell? ⟨B, 4, none⟩ = some (.int .i64 k')) (c5 : w.cell? ⟨B, 5, none⟩ = some (.int .i64 n')) (c6 : w.cell? ⟨B, 6, none⟩ = some (.string s')) (c7 : w.cell? ⟨B, 7, none⟩ = some (.bool b'))
   (hkk : KindOk k) (hkk' : KindOk k') (hbk : (kb ks k == 0) = false) (hbk' : (kb ks k' == 0) = false) (hne : (k' != k) = true) (hv : valid k n s b = true) (hv' : valid k' n' s' b' = true) : Calls Tryd.prog 38 #[.int .i64 o, .slice (some ⟨B, 0, none⟩) 2 2] w fun e w' => e = .returned (.int .i64 10) ∧ Below w.heap.size w w' := by
  have d1 : decide ((o : Int) < 0) = false := by simp
  have d2 : decide (14 ≤ (o : Int)) = false := by simp; omega
  go_enter Tryd.func38, Tryd.ntmps38
  go_wp2
  refine wp_loop_rounds 3 ?_
  rw [rounds_succ]
  go_wp2_with (go_at_call 13; refine (valid_any _ _ _ _ _).mono ?_; rintro e w1 ⟨rfl, hb1⟩; obtain ⟨hc1, hf1⟩ := bcell hb1; have hz1 := bsize hb1; have hB1 : B < w1.heap.size := (by omega); have h01 : 0 < w1.heap.size := (by omega))
  rw [rounds_succ]
  go_wp2_with (go_at_call 13; refine (valid_any _ _ _ _ _).mono ?_; rintro e w2 ⟨rfl, hb2⟩; obtain ⟨hc2, hf2⟩ := bcell hb2; have hz2 := bsize hb2; have hB2 : B < w2.heap.size := (by omega); have h02 : 0 < w2.heap.size := (by omega))
  rw [rounds_succ]
  go_wp2
  refine wp_loop_rounds 3 ?_
  rw [rounds_succ]
  go_wp2
  go_quiet (fail)
  go_wp2
  rw [rounds_succ]
  go_wp2
  go_quiet (fail)
  go_wp2
  have hbb : Below w.heap.size w w2 := ((((Below.refl _ _).alloc (Nat.le_refl _) _).trans (hb1.mono (by simp))).alloc (by omega) _).trans (hb2.mono (by simp; omega))
  go_ret
  refine ⟨rfl, ?_⟩
  repeat (first | exact hbb | apply Below.drew | apply below_drewN | refine Below.alloc ?_ (by first | omega | (simp; done) | (simp; omega)) _)
theorem refusal2_f (w : World) (o B : Nat) (h : o < 14) (ks k n : Int) (s : ByteArray) (b : Bool) (k' n' : Int) (s' : ByteArray) (b' : Bool)
   (h0 : 0 < w.heap.size) (hB : B < w.heap.size)
   (ha : w.cell? ⟨0, o * 3, none⟩ = some (.int .i64 2)) (hk : w.cell? ⟨0, o * 3 + 1, none⟩ = some (.int .i64 ks))
   (c0 : w.cell? ⟨B, 0, none⟩ = some (.int .i64 k)) (c1 : w.cell? ⟨B, 1, none⟩ = some (.int .i64 n)) (c2 : w.cell? ⟨B, 2, none⟩ = some (.string s)) (c3 : w.cell? ⟨B, 3, none⟩ = some (.bool b))
   (c4 : w.cell? ⟨B, 4, none⟩ = some (.int .i64 k')) (c5 : w.cell? ⟨B, 5, none⟩ = some (.int .i64 n')) (c6 : w.cell? ⟨B, 6, none⟩ = some (.string s')) (c7 : w.cell? ⟨B, 7, none⟩ = some (.bool b'))
   (hkk : KindOk k) (hkk' : KindOk k') (hbk : (kb ks k == 0) = false) (hbk' : (kb ks k' == 0) = false) (hne : (k' != k) = false) (hv : valid k n s b = true) (hv' : valid k' n' s' b' = true) : Calls Tryd.prog 38 #[.int .i64 o, .slice (some ⟨B, 0, none⟩) 2 2] w fun e w' => e = .returned (.int .i64 0) ∧ Below w.heap.size w w' := by
  have d1 : decide ((o : Int) < 0) = false := by simp
  have d2 : decide (14 ≤ (o : Int)) = false := by simp; omega
  go_enter Tryd.func38, Tryd.ntmps38
  go_wp2
  refine wp_loop_rounds 3 ?_
  rw [rounds_succ]
  go_wp2_with (go_at_call 13; refine (valid_any _ _ _ _ _).mono ?_; rintro e w1 ⟨rfl, hb1⟩; obtain ⟨hc1, hf1⟩ := bcell hb1; have hz1 := bsize hb1; have hB1 : B < w1.heap.size := (by omega); have h01 : 0 < w1.heap.size := (by omega))
  rw [rounds_succ]
  go_wp2_with (go_at_call 13; refine (valid_any _ _ _ _ _).mono ?_; rintro e w2 ⟨rfl, hb2⟩; obtain ⟨hc2, hf2⟩ := bcell hb2; have hz2 := bsize hb2; have hB2 : B < w2.heap.size := (by omega); have h02 : 0 < w2.heap.size := (by omega))
  rw [rounds_succ]
  go_wp2
  refine wp_loop_rounds 3 ?_
  rw [rounds_succ]
  go_wp2
  go_quiet (fail)
  go_wp2
  rw [rounds_succ]
  go_wp2
  go_quiet (fail)
  go_wp2
  rw [rounds_succ]
  go_wp2
  have hbb : Below w.heap.size w w2 := ((((Below.refl _ _).alloc (Nat.le_refl _) _).trans (hb1.mono (by simp))).alloc (by omega) _).trans (hb2.mono (by simp; omega))
  go_ret
  refine ⟨rfl, ?_⟩
  repeat (first | exact hbb | apply Below.drew | apply below_drewN | refine Below.alloc ?_ (by first | omega | (simp; done) | (simp; omega)) _)
end Go.Proofs.YtcjibjiojgikjaaDoor
