/- Contracts of value.Unary. -/
import Derived.Test.YtcjibjiojgikjaaDoorL4
import Derived.WalkKit
import Derived.WalkSpells
import Derived.WalkLawsBesides
import Derived.Lib.Hide
import Derived.BigQuiet
import Derived.LoopN
import Derived.Deep.QuietTactic
import Derived.Deep.RegionWith
namespace Go.Proofs.YtcjibjiojgikjaaDoor
open Go Go.RowKit
set_option maxHeartbeats 400000
set_option linter.unusedVariables false
set_option linter.unusedSimpArgs false
def unE (op k n : Int) (s : ByteArray) (b : Bool) : Int :=
  if op = 1 ∨ op = 2 then if valid k n s b = true then (if kb (rK op) k = 0 then 10 else 0) else 12 else 11
theorem refusal1_any (w : World) (hR : Rules w) (op : Int) (B : Nat) (k n : Int) (s : ByteArray) (b : Bool) (hB : B < w.heap.size)
   (c0 : w.cell? ⟨B, 0, none⟩ = some (.int .i64 k)) (c1 : w.cell? ⟨B, 1, none⟩ = some (.int .i64 n)) (c2 : w.cell? ⟨B, 2, none⟩ = some (.string s)) (c3 : w.cell? ⟨B, 3, none⟩ = some (.bool b)) :
   Calls Tryd.prog 38 #[.int .i64 op, .slice (some ⟨B, 0, none⟩) 1 1] w fun e w' => e = .returned (.int .i64 (unE op k n s b)) ∧ Below w.heap.size w w' := by
  by_cases hr : op < 0 ∨ 14 ≤ op
  · have e : unE op k n s b = 11 := by unfold unE; rw [if_neg (by omega)]
    rw [e]
    exact (refusal_lo op hr _ 1 w).mono fun _ _ ⟨h1, h2⟩ => ⟨h1, by rw [h2]; exact Below.refl _ _⟩
  · obtain ⟨o, rfl⟩ : ∃ o : Nat, op = o := ⟨op.toNat, by omega⟩
    have ho : o < 14 := by omega
    by_cases h3 : o = 1 ∨ o = 2
    · have ha := hR.args o ho
      have ha1 : rArgs o = 1 := by rcases h3 with rfl | rfl <;> rfl
      rw [ha1] at ha
      have hk := hR.kinds o ho
      have hrk : rK (o : Int) = rKinds o := rfl
      have e0 : unE o k n s b = if valid k n s b = true then (if kb (rKinds o) k = 0 then 10 else 0) else 12 := by
        unfold unE; rw [if_pos (by omega), hrk]
      rw [e0]
      cases hv : valid k n s b
      · rw [if_neg (by simp)]
        exact refusal1_a w o B ho _ k n s b hR.pos hB ha hk c0 c1 c2 c3 hv
      · rw [if_pos rfl]
        have hkk := valid_kind hv
        by_cases q1 : kb (rKinds o) k = 0
        · rw [if_pos q1]
          exact refusal1_c w o B ho _ k n s b hR.pos hB ha hk c0 c1 c2 c3 hkk (beq_zero_t q1) hv
        · rw [if_neg q1]
          exact refusal1_f w o B ho _ k n s b hR.pos hB ha hk c0 c1 c2 c3 hkk (beq_zero_f q1) hv
    · have e : unE o k n s b = 11 := by unfold unE; rw [if_neg (by omega)]
      rw [e]
      refine (refusal_args w o ho _ 1 (rArgs o) ?_ hR.pos (hR.args o ho)).mono fun _ _ ⟨h1, h2⟩ => ⟨h1, by rw [h2]; exact Below.refl _ _⟩
      by_cases h0 : o = 0
      · subst h0; rfl
      · rw [rArgs_two (by omega)]; rfl
theorem refusal1_at (w : World) (hR : Rules w) (op k n : Int) (s : ByteArray) (b : Bool) :
   Calls Tryd.prog 38 #[.int .i64 op, .slice (some ⟨w.heap.size + 1 + 1, 0, none⟩) 1 1] (((w.alloc (Obj.cells #[.int .i64 k, .int .i64 n, .string s, .bool b] 29)).alloc (Obj.cells #[.int .i64 0, .int .i64 0, .string ⟨#[]⟩, .bool false] 29)).alloc (Obj.cells #[.int .i64 k, .int .i64 n, .string s, .bool b] 29)) fun e w' => e = .returned (.int .i64 (unE op k n s b)) ∧ Below (w.heap.size + 3) (((w.alloc (Obj.cells #[.int .i64 k, .int .i64 n, .string s, .bool b] 29)).alloc (Obj.cells #[.int .i64 0, .int .i64 0, .string ⟨#[]⟩, .bool false] 29)).alloc (Obj.cells #[.int .i64 k, .int .i64 n, .string s, .bool b] 29)) w' ∧ w.heap.size + 3 ≤ w'.heap.size ∧ Below w.heap.size w w' := by
  have hR4 : Rules (((w.alloc (Obj.cells #[.int .i64 k, .int .i64 n, .string s, .bool b] 29)).alloc (Obj.cells #[.int .i64 0, .int .i64 0, .string ⟨#[]⟩, .bool false] 29)).alloc (Obj.cells #[.int .i64 k, .int .i64 n, .string s, .bool b] 29)) := ((hR.alloc _).alloc _).alloc _
  refine (refusal1_any (((w.alloc (Obj.cells #[.int .i64 k, .int .i64 n, .string s, .bool b] 29)).alloc (Obj.cells #[.int .i64 0, .int .i64 0, .string ⟨#[]⟩, .bool false] 29)).alloc (Obj.cells #[.int .i64 k, .int .i64 n, .string s, .bool b] 29)) hR4 op (w.heap.size + 1 + 1) k n s b (by simp) (by simp [go_sem]) (by simp [go_sem]) (by simp [go_sem]) (by simp [go_sem])).mono ?_
  rintro e w1 ⟨he, hb⟩
  refine ⟨he, hb.mono (by simp), by have := hb.size; simp at this; omega, ?_⟩
  exact ((((Below.refl _ _).alloc (Nat.le_refl _) _).alloc (by simp) _).alloc (by simp; omega) _).trans (hb.mono (by simp; omega))
theorem unary_no (w : World) (hR : Rules w) (op k n : Int) (s : ByteArray) (b : Bool) (hE : (unE op k n s b != 0) = true) :
   Calls Tryd.prog 18 #[.int .i64 op, .agg #[.int .i64 k, .int .i64 n, .string s, .bool b]] w
     fun e w' => e = .returned (.tuple #[.agg #[.int .i64 0, .int .i64 0, .string ⟨#[]⟩, .bool false], .int .i64 (unE op k n s b)]) ∧ Below w.heap.size w w' := by
  have H := Lib.hid hR
  clear hR
  go_enter Tryd.func18, Tryd.ntmps18
  go_wp2_with (go_at_call 38; refine (refusal1_at _ H.out _ _ _ _ _).mono ?_; rintro e w1 ⟨rfl, hb1, hz1, hbb⟩; obtain ⟨hc1, hf1⟩ := bcell4 hb1)
  refine bodyPost_ret (v := .tuple #[.agg #[.int .i64 0, .int .i64 0, .string ⟨#[]⟩, .bool false], .int .i64 (unE op k n s b)]) (by simp [results, Tryd.results18, go_sem, hc1]) rfl ⟨rfl, ?_⟩
  repeat (first | exact hbb | apply Below.drew | apply below_drewN | refine Below.setCell ?_ (by show w.heap.size ≤ w.heap.size + 1; omega) _ | refine Below.alloc ?_ (by first | omega | (simp [World.setCell]; done) | (simp [World.setCell]; omega)) _)
theorem unary_yes (w : World) (hR : Rules w) (op k n : Int) (s : ByteArray) (b : Bool) (K N : Int) (S : ByteArray) (T : Bool) (hE : (unE op k n s b != 0) = false)
   (hC : ∀ w : World, Rules w → Calls Tryd.prog 39 #[.int .i64 op, .agg #[.int .i64 0, .int .i64 0, .string ⟨#[]⟩, .bool false], .agg #[.int .i64 k, .int .i64 n, .string s, .bool b]] w
      fun e w' => e = .returned (.agg #[.int .i64 K, .int .i64 N, .string S, .bool T]) ∧ Below w.heap.size w w') :
   Calls Tryd.prog 18 #[.int .i64 op, .agg #[.int .i64 k, .int .i64 n, .string s, .bool b]] w
     fun e w' => e = .returned (.tuple #[.agg #[.int .i64 K, .int .i64 N, .string S, .bool T], .int .i64 0]) ∧ Below w.heap.size w w' := by
  have H := Lib.hid hR
  clear hR
  have HC := Lib.hid hC
  clear hC
  go_enter Tryd.func18, Tryd.ntmps18
  go_wp2_with (first | (go_at_call 38; refine (refusal1_at _ H.out _ _ _ _ _).mono ?_; rintro e w1 ⟨rfl, hb1, hz1, hbb⟩; obtain ⟨hc1, hf1⟩ := bcell4 hb1; have hzz : w.heap.size + 1 < w1.heap.size := (by omega)) | (go_at_call 39; refine (HC.out _ (H.out.below hbb)).mono ?_; rintro e w2 ⟨rfl, hb2⟩; obtain ⟨hc2, hf2⟩ := bcell hb2; have hzy := hb2.size))
  refine bodyPost_ret (v := .tuple #[.agg #[.int .i64 K, .int .i64 N, .string S, .bool T], .int .i64 0]) (by simp [results, Tryd.results18, go_sem, hc1, hc2, hzz]) rfl ⟨rfl, ?_⟩
  have hbz := hbb.trans (hb2.mono (by omega))
  repeat (first | exact hbz | apply Below.drew | apply below_drewN | refine Below.setCell ?_ (by show w.heap.size ≤ w.heap.size + 1; omega) _ | refine Below.alloc ?_ (by first | omega | (simp [World.setCell]; done) | (simp [World.setCell]; omega)) _)
/-- what Unary answers -/
def unV (op k n : Int) (s : ByteArray) (b : Bool) : Int × Int × ByteArray × Bool :=
  if unE op k n s b = 0 then (if op = 1 then (1, wrap64 (0 + wrap64 (-n)), ⟨#[]⟩, false) else (3, 0, ⟨#[]⟩, !b)) else (0, 0, ⟨#[]⟩, false)
theorem unary_any (w : World) (hR : Rules w) (op k n : Int) (s : ByteArray) (b : Bool) :
   Calls Tryd.prog 18 #[.int .i64 op, .agg #[.int .i64 k, .int .i64 n, .string s, .bool b]] w
     fun e w' => e = .returned (.tuple #[.agg #[.int .i64 (unV op k n s b).1, .int .i64 (unV op k n s b).2.1, .string (unV op k n s b).2.2.1, .bool (unV op k n s b).2.2.2], .int .i64 (unE op k n s b)]) ∧ Below w.heap.size w w' := by
  by_cases hE : unE op k n s b = 0
  · have hE' : (unE op k n s b != 0) = false := by simp [hE]
    have hop : op = 1 ∨ op = 2 := by
      rcases Decidable.em (op = 1 ∨ op = 2) with h | h
      · exact h
      · unfold unE at hE
        rw [if_neg h] at hE
        omega
    unfold unV
    rw [if_pos hE, hE]
    rcases hop with rfl | rfl
    · rw [if_pos rfl]
      refine unary_yes w hR 1 k n s b 1 _ _ _ hE' fun W hW => ?_
      have hc := carry_0 W 1 (by omega) 0 0 ⟨#[]⟩ false k n s b hW.pos (hW.does 1 (by omega))
      have hr : reckonI ((1 : Nat) : Int) 0 n = wrap64 (0 + wrap64 (-n)) := by unfold reckonI; rw [if_pos (by omega)]
      rw [hr] at hc
      exact hc
    · rw [if_neg (by omega)]
      refine unary_yes w hR 2 k n s b 3 0 _ _ hE' fun W hW => ?_
      have hc := carry_2 W 2 (by omega) 0 0 ⟨#[]⟩ false k n s b hW.pos (hW.does 2 (by omega))
      have hr : joinB ((2 : Nat) : Int) false b = !b := by unfold joinB; rw [if_pos (by omega)]
      rw [hr] at hc
      exact hc
  · unfold unV
    rw [if_neg hE]
    exact unary_no w hR op k n s b (by simp [hE])
end Go.Proofs.YtcjibjiojgikjaaDoor
