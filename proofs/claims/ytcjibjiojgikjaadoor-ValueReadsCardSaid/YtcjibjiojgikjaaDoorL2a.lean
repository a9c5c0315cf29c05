/- Contracts of value.refusal: the table of rules, its refusals by number and by how many values; one value. -/
import Derived.Test.YtcjibjiojgikjaaDoorL1b
import Derived.WalkKit
import Derived.WalkSpells
import Derived.WalkLawsBesides
import Derived.Lib.Hide
import Derived.BigQuiet
import Derived.LoopN
import Derived.Deep.QuietTactic
import Derived.Deep.RegionWith
namespace Go.Proofs.YtcjibjiojgikjaaDoor
open Go Go.RowKit
set_option maxHeartbeats 400000
set_option linter.unusedVariables false
set_option linter.unusedSimpArgs false
theorem bcell {W w1 : World} (hb : Below W.heap.size W w1) : (∀ b o, b < W.heap.size → w1.cell? ⟨b, o, none⟩ = W.cell? ⟨b, o, none⟩) ∧ (∀ b o, b < W.heap.size → w1.frozen? ⟨b, o, none⟩ = W.frozen? ⟨b, o, none⟩) :=
  ⟨fun b o h => hb.cell (p := ⟨b, o, none⟩) h, fun b o h => hb.frozen (p := ⟨b, o, none⟩) h⟩
theorem bsize {w w1 : World} {o : Obj} (hb : Below (w.alloc o).heap.size (w.alloc o) w1) : w.heap.size + 1 ≤ w1.heap.size := by
  have := hb.size
  simpa using this
def p2 (k : Int) : Int := if k = 1 then 2 else if k = 2 then 4 else 8
def kb (ks k : Int) : Int := bits .and .i64 ks (p2 k)
def KindOk (k : Int) : Prop := k = 1 ∨ k = 2 ∨ k = 3
theorem shl1_k (k : Int) (hk : KindOk k) : Op.shift .shl .i64 1 .i64 k = pure (.int .i64 (p2 k)) := by
  rcases hk with rfl | rfl | rfl <;> simp [Op.shift, p2] <;> rfl
theorem and_p2 (ks k : Int) : bits .and .i64 ks (p2 k) = kb ks k := rfl
theorem valid_kind {k n : Int} {s : ByteArray} {b : Bool} (h : valid k n s b = true) : KindOk k := by
  unfold valid at h
  unfold KindOk
  split at h
  · exact .inl (by assumption)
  · split at h
    · exact .inr (.inl (by assumption))
    · split at h
      · exact .inr (.inr (by assumption))
      · simp at h
def rArgs : Nat → Int | 0 => 0 | 1 => 1 | 2 => 1 | _ => 2
def rKinds : Nat → Int | 0 => 0 | 1 => 2 | 2 => 8 | 3 => 2 | 4 => 2 | 5 => 2 | 6 => 14 | 7 => 14 | 8 => 6 | 9 => 6 | 10 => 6 | 11 => 6 | _ => 8
def rDoes : Nat → Int | 0 => 0 | 1 => 0 | 2 => 2 | 3 => 0 | 4 => 0 | 5 => 0 | 6 => 1 | 7 => 1 | 8 => 1 | 9 => 1 | 10 => 1 | 11 => 1 | _ => 2
structure Rules (w : World) : Prop where
  pos : 0 < w.heap.size
  args : ∀ o, o < 14 → w.cell? ⟨0, o * 3, none⟩ = some (.int .i64 (rArgs o))
  kinds : ∀ o, o < 14 → w.cell? ⟨0, o * 3 + 1, none⟩ = some (.int .i64 (rKinds o))
  does : ∀ o, o < 14 → w.cell? ⟨0, o * 3 + 2, none⟩ = some (.int .i64 (rDoes o))
theorem Rules.below {w w' : World} (h : Rules w) (hb : Below w.heap.size w w') : Rules w' :=
  ⟨Nat.lt_of_lt_of_le h.pos hb.size, fun o ho => (hb.cell (p := ⟨0, _, none⟩) h.pos).trans (h.args o ho), fun o ho => (hb.cell (p := ⟨0, _, none⟩) h.pos).trans (h.kinds o ho), fun o ho => (hb.cell (p := ⟨0, _, none⟩) h.pos).trans (h.does o ho)⟩
theorem Rules.alloc {w : World} (h : Rules w) (o : Obj) : Rules (w.alloc o) := h.below ((Below.refl _ _).alloc (Nat.le_refl _) o)
theorem Rules.drew {w : World} (h : Rules w) : Rules w.drew := ⟨h.pos, h.args, h.kinds, h.does⟩
theorem Rules.drewN {w : World} (h : Rules w) (n : Nat) : Rules (w.drewN n) := ⟨h.pos, h.args, h.kinds, h.does⟩

theorem refusal_lo (op : Int) (h : op < 0 ∨ 14 ≤ op) (A : Option Addr) (n : Nat) (w : World) : Calls Tryd.prog 38 #[.int .i64 op, .slice A n n] w fun e w' => e = .returned (.int .i64 11) ∧ w' = w := by
  rcases h with h | h
  · have d1 : decide (op < 0) = true := by simpa using h
    go_enter Tryd.func38, Tryd.ntmps38
    go_wp2
    go_ret
    exact ⟨rfl, rfl⟩
  · have d1 : decide (op < 0) = false := by simp; omega
    have d2 : decide (14 ≤ op) = true := by simpa using h
    go_enter Tryd.func38, Tryd.ntmps38
    go_wp2
    go_ret
    exact ⟨rfl, rfl⟩
theorem refusal_args (w : World) (o : Nat) (h : o < 14) (A : Option Addr) (n : Nat) (a : Int) (hne : (a != (n : Int)) = true) (h0 : 0 < w.heap.size)
    (ha : w.cell? ⟨0, o * 3, none⟩ = some (.int .i64 a)) : Calls Tryd.prog 38 #[.int .i64 o, .slice A n n] w fun e w' => e = .returned (.int .i64 11) ∧ w' = w := by
  have d1 : decide ((o : Int) < 0) = false := by simp
  have d2 : decide (14 ≤ (o : Int)) = false := by simp; omega
  go_enter Tryd.func38, Tryd.ntmps38
  go_wp2
  go_ret
  exact ⟨rfl, rfl⟩
theorem refusal1_a (w : World) (o B : Nat) (h : o < 14) (ks k n : Int) (s : ByteArray) (b : Bool)
   (h0 : 0 < w.heap.size) (hB : B < w.heap.size)
   (ha : w.cell? ⟨0, o * 3, none⟩ = some (.int .i64 1)) (hk : w.cell? ⟨0, o * 3 + 1, none⟩ = some (.int .i64 ks))
   (c0 : w.cell? ⟨B, 0, none⟩ = some (.int .i64 k)) (c1 : w.cell? ⟨B, 1, none⟩ = some (.int .i64 n)) (c2 : w.cell? ⟨B, 2, none⟩ = some (.string s)) (c3 : w.cell? ⟨B, 3, none⟩ = some (.bool b))
   (hv : valid k n s b = false) : Calls Tryd.prog 38 #[.int .i64 o, .slice (some ⟨B, 0, none⟩) 1 1] w fun e w' => e = .returned (.int .i64 12) ∧ Below w.heap.size w w' := by
  have d1 : decide ((o : Int) < 0) = false := by simp
  have d2 : decide (14 ≤ (o : Int)) = false := by simp; omega
  go_enter Tryd.func38, Tryd.ntmps38
  go_wp2
  refine wp_loop_rounds 3 ?_
  rw [rounds_succ]
  go_wp2_with (go_at_call 13; refine (valid_any _ _ _ _ _).mono ?_; rintro e w1 ⟨rfl, hb1⟩; obtain ⟨hc1, hf1⟩ := bcell hb1; have hz1 := bsize hb1; have hB1 : B < w1.heap.size := (by omega); have h01 : 0 < w1.heap.size := (by omega))
  go_ret
  exact ⟨rfl, ((Below.refl _ _).alloc (Nat.le_refl _) _).trans (hb1.mono (by simp))⟩
attribute [local go_sem ↓] shl1_k and_p2
theorem refusal1_c (w : World) (o B : Nat) (h : o < 14) (ks k n : Int) (s : ByteArray) (b : Bool)
   (h0 : 0 < w.heap.size) (hB : B < w.heap.size)
   (ha : w.cell? ⟨0, o * 3, none⟩ = some (.int .i64 1)) (hk : w.cell? ⟨0, o * 3 + 1, none⟩ = some (.int .i64 ks))
   (c0 : w.cell? ⟨B, 0, none⟩ = some (.int .i64 k)) (c1 : w.cell? ⟨B, 1, none⟩ = some (.int .i64 n)) (c2 : w.cell? ⟨B, 2, none⟩ = some (.string s)) (c3 : w.cell? ⟨B, 3, none⟩ = some (.bool b))
   (hkk : KindOk k) (hbk : (kb ks k == 0) = true) (hv : valid k n s b = true) : Calls Tryd.prog 38 #[.int .i64 o, .slice (some ⟨B, 0, none⟩) 1 1] w fun e w' => e = .returned (.int .i64 10) ∧ Below w.heap.size w w' := by
  have d1 : decide ((o : Int) < 0) = false := by simp
  have d2 : decide (14 ≤ (o : Int)) = false := by simp; omega
  go_enter Tryd.func38, Tryd.ntmps38
  go_wp2
  refine wp_loop_rounds 3 ?_
  rw [rounds_succ]
  go_wp2_with (go_at_call 13; refine (valid_any _ _ _ _ _).mono ?_; rintro e w1 ⟨rfl, hb1⟩; obtain ⟨hc1, hf1⟩ := bcell hb1; have hz1 := bsize hb1; have hB1 : B < w1.heap.size := (by omega); have h01 : 0 < w1.heap.size := (by omega))
  rw [rounds_succ]
  go_wp2
  refine wp_loop_rounds 3 ?_
  rw [rounds_succ]
  go_wp2
  go_quiet (fail)
  go_wp2
  have hbb : Below w.heap.size w w1 := ((Below.refl _ _).alloc (Nat.le_refl _) _).trans (hb1.mono (by simp))
  go_ret
  refine ⟨rfl, ?_⟩
  repeat (first | exact hbb | apply Below.drew | apply below_drewN | refine Below.alloc ?_ (by first | omega | (simp; done) | (simp; omega)) _)
theorem refusal1_f (w : World) (o B : Nat) (h : o < 14) (ks k n : Int) (s : ByteArray) (b : Bool)
   (h0 : 0 < w.heap.size) (hB : B < w.heap.size)
   (ha : w.cell? ⟨0, o * 3, none⟩ = some (.int .i64 1)) (hk : w.cell? ⟨0, o * 3 + 1, none⟩ = some (.int .i64 ks))
   (c0 : w.cell? ⟨B, 0, none⟩ = some (.int .i64 k)) (c1 : w.cell? ⟨B, 1, none⟩ = some (.int .i64 n)) (c2 : w.cell? ⟨B, 2, none⟩ = some (.string s)) (c3 : w.cell? ⟨B, 3, none⟩ = some (.bool b))
   (hkk : KindOk k) (hbk : (kb ks k == 0) = false) (hv : valid k n s b = true) : Calls Tryd.prog 38 #[.int .i64 o, .slice (some ⟨B, 0, none⟩) 1 1] w fun e w' => e = .returned (.int .i64 0) ∧ Below w.heap.size w w' := by
  have d1 : decide ((o : Int) < 0) = false := by simp
  have d2 : decide (14 ≤ (o : Int)) = false := by simp; omega
  go_enter Tryd.func38, Tryd.ntmps38
  go_wp2
  refine wp_loop_rounds 3 ?_
  rw [rounds_succ]
  go_wp2_with (go_at_call 13; refine (valid_any _ _ _ _ _).mono ?_; rintro e w1 ⟨rfl, hb1⟩; obtain ⟨hc1, hf1⟩ := bcell hb1; have hz1 := bsize hb1; have hB1 : B < w1.heap.size := (by omega); have h01 : 0 < w1.heap.size := (by omega))
  rw [rounds_succ]
  go_wp2
  refine wp_loop_rounds 3 ?_
  rw [rounds_succ]
  go_wp2
  go_quiet (fail)
  go_wp2
  rw [rounds_succ]
  go_wp2
  have hbb : Below w.heap.size w w1 := ((Below.refl _ _).alloc (Nat.le_refl _) _).trans (hb1.mono (by simp))
  go_ret
  refine ⟨rfl, ?_⟩
  repeat (first | exact hbb | apply Below.drew | apply below_drewN | refine Below.alloc ?_ (by first | omega | (simp; done) | (simp; omega)) _)
end Go.Proofs.YtcjibjiojgikjaaDoor
