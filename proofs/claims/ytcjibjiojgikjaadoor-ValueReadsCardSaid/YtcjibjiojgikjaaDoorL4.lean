/- Contracts of value.Unary and value.Binary. -/
import Derived.Test.YtcjibjiojgikjaaDoorL2b
import Derived.Test.YtcjibjiojgikjaaDoorL3
import Derived.WalkKit
import Derived.WalkSpells
import Derived.WalkLawsBesides
import Derived.Lib.Hide
import Derived.BigQuiet
import Derived.LoopN
import Derived.Deep.QuietTactic
import Derived.Deep.RegionWith
namespace Go.Proofs.YtcjibjiojgikjaaDoor
open Go Go.RowKit
set_option maxHeartbeats 400000
set_option linter.unusedVariables false
set_option linter.unusedSimpArgs false
def rK (op : Int) : Int := rKinds op.toNat
def binE (op k n : Int) (s : ByteArray) (b : Bool) (k' n' : Int) (s' : ByteArray) (b' : Bool) : Int :=
  if op < 3 ∨ 14 ≤ op then 11 else if valid k n s b = true ∧ valid k' n' s' b' = true then (if kb (rK op) k = 0 ∨ kb (rK op) k' = 0 ∨ k' ≠ k then 10 else 0) else 12
theorem rArgs_two {o : Nat} (h : 3 ≤ o) : rArgs o = 2 := by
  match o, h with
  | n + 3, _ => rfl
theorem rArgs_lt (o : Nat) (h : o < 3) : rArgs o ≠ 2 := by
  match o, h with
  | 0, _ => decide
  | 1, _ => decide
  | 2, _ => decide
theorem beq_zero_t {x : Int} (h : x = 0) : (x == 0) = true := by simp [h]
theorem beq_zero_f {x : Int} (h : x ≠ 0) : (x == 0) = false := by simp [h]
theorem refusal2_any (w : World) (hR : Rules w) (op : Int) (B : Nat) (k n : Int) (s : ByteArray) (b : Bool) (k' n' : Int) (s' : ByteArray) (b' : Bool) (hB : B < w.heap.size)
   (c0 : w.cell? ⟨B, 0, none⟩ = some (.int .i64 k)) (c1 : w.cell? ⟨B, 1, none⟩ = some (.int .i64 n)) (c2 : w.cell? ⟨B, 2, none⟩ = some (.string s)) (c3 : w.cell? ⟨B, 3, none⟩ = some (.bool b))
   (c4 : w.cell? ⟨B, 4, none⟩ = some (.int .i64 k')) (c5 : w.cell? ⟨B, 5, none⟩ = some (.int .i64 n')) (c6 : w.cell? ⟨B, 6, none⟩ = some (.string s')) (c7 : w.cell? ⟨B, 7, none⟩ = some (.bool b')) :
   Calls Tryd.prog 38 #[.int .i64 op, .slice (some ⟨B, 0, none⟩) 2 2] w fun e w' => e = .returned (.int .i64 (binE op k n s b k' n' s' b')) ∧ Below w.heap.size w w' := by
  by_cases hr : op < 0 ∨ 14 ≤ op
  · have e : binE op k n s b k' n' s' b' = 11 := by unfold binE; rw [if_pos (by omega)]
    rw [e]
    exact (refusal_lo op hr _ 2 w).mono fun _ _ ⟨h1, h2⟩ => ⟨h1, by rw [h2]; exact Below.refl _ _⟩
  · obtain ⟨o, rfl⟩ : ∃ o : Nat, op = o := ⟨op.toNat, by omega⟩
    have ho : o < 14 := by omega
    by_cases h3 : o < 3
    · have e : binE o k n s b k' n' s' b' = 11 := by unfold binE; rw [if_pos (by omega)]
      rw [e]
      exact (refusal_args w o ho _ 2 (rArgs o) (by have := rArgs_lt o h3; simpa using this) hR.pos (hR.args o ho)).mono fun _ _ ⟨h1, h2⟩ => ⟨h1, by rw [h2]; exact Below.refl _ _⟩
    · have ha := hR.args o ho
      rw [rArgs_two (by omega)] at ha
      have hk := hR.kinds o ho
      have hrk : rK (o : Int) = rKinds o := rfl
      have e0 : binE o k n s b k' n' s' b' = if valid k n s b = true ∧ valid k' n' s' b' = true then (if kb (rKinds o) k = 0 ∨ kb (rKinds o) k' = 0 ∨ k' ≠ k then 10 else 0) else 12 := by
        unfold binE; rw [if_neg (by omega), hrk]
      rw [e0]
      cases hv : valid k n s b
      · rw [if_neg (by simp)]
        exact refusal2_a w o B ho _ k n s b k' n' s' b' hR.pos hB ha hk c0 c1 c2 c3 c4 c5 c6 c7 hv
      · cases hv' : valid k' n' s' b'
        · rw [if_neg (by simp)]
          exact refusal2_b w o B ho _ k n s b k' n' s' b' hR.pos hB ha hk c0 c1 c2 c3 c4 c5 c6 c7 hv hv'
        · rw [if_pos ⟨rfl, rfl⟩]
          have hkk := valid_kind hv
          have hkk' := valid_kind hv'
          by_cases q1 : kb (rKinds o) k = 0
          · rw [if_pos (.inl q1)]
            exact refusal2_c w o B ho _ k n s b k' n' s' b' hR.pos hB ha hk c0 c1 c2 c3 c4 c5 c6 c7 hkk (beq_zero_t q1) hv hv'
          · by_cases q2 : kb (rKinds o) k' = 0
            · rw [if_pos (.inr (.inl q2))]
              exact refusal2_d w o B ho _ k n s b k' n' s' b' hR.pos hB ha hk c0 c1 c2 c3 c4 c5 c6 c7 hkk hkk' (beq_zero_f q1) (beq_zero_t q2) hv hv'
            · by_cases q3 : k' = k
              · rw [if_neg (by simp [q1, q2, q3])]
                exact refusal2_f w o B ho _ k n s b k' n' s' b' hR.pos hB ha hk c0 c1 c2 c3 c4 c5 c6 c7 hkk hkk' (beq_zero_f q1) (beq_zero_f q2) (by simp [q3]) hv hv'
              · rw [if_pos (.inr (.inr q3))]
                exact refusal2_e w o B ho _ k n s b k' n' s' b' hR.pos hB ha hk c0 c1 c2 c3 c4 c5 c6 c7 hkk hkk' (beq_zero_f q1) (beq_zero_f q2) (by simp [q3]) hv hv'

theorem bcell4 {B : Nat} {W w1 : World} (hb : Below B W w1) : (∀ b o, b < B → w1.cell? ⟨b, o, none⟩ = W.cell? ⟨b, o, none⟩) ∧ (∀ b o, b < B → w1.frozen? ⟨b, o, none⟩ = W.frozen? ⟨b, o, none⟩) :=
  ⟨fun b o h => hb.cell (p := ⟨b, o, none⟩) h, fun b o h => hb.frozen (p := ⟨b, o, none⟩) h⟩
theorem refusal2_at (w : World) (hR : Rules w) (op k n : Int) (s : ByteArray) (b : Bool) (k' n' : Int) (s' : ByteArray) (b' : Bool) :
   Calls Tryd.prog 38 #[.int .i64 op, .slice (some ⟨w.heap.size + 1 + 1 + 1, 0, none⟩) 2 2] ((((w.alloc (Obj.cells #[.int .i64 k, .int .i64 n, .string s, .bool b] 29)).alloc (Obj.cells #[.int .i64 k', .int .i64 n', .string s', .bool b'] 29)).alloc (Obj.cells #[.int .i64 0, .int .i64 0, .string ⟨#[]⟩, .bool false] 29)).alloc (Obj.cells #[.int .i64 k, .int .i64 n, .string s, .bool b, .int .i64 k', .int .i64 n', .string s', .bool b'] 29)) fun e w' => e = .returned (.int .i64 (binE op k n s b k' n' s' b')) ∧ Below (w.heap.size + 4) ((((w.alloc (Obj.cells #[.int .i64 k, .int .i64 n, .string s, .bool b] 29)).alloc (Obj.cells #[.int .i64 k', .int .i64 n', .string s', .bool b'] 29)).alloc (Obj.cells #[.int .i64 0, .int .i64 0, .string ⟨#[]⟩, .bool false] 29)).alloc (Obj.cells #[.int .i64 k, .int .i64 n, .string s, .bool b, .int .i64 k', .int .i64 n', .string s', .bool b'] 29)) w' ∧ w.heap.size + 4 ≤ w'.heap.size ∧ Below w.heap.size w w' := by
  have hR4 : Rules ((((w.alloc (Obj.cells #[.int .i64 k, .int .i64 n, .string s, .bool b] 29)).alloc (Obj.cells #[.int .i64 k', .int .i64 n', .string s', .bool b'] 29)).alloc (Obj.cells #[.int .i64 0, .int .i64 0, .string ⟨#[]⟩, .bool false] 29)).alloc (Obj.cells #[.int .i64 k, .int .i64 n, .string s, .bool b, .int .i64 k', .int .i64 n', .string s', .bool b'] 29)) := (((hR.alloc _).alloc _).alloc _).alloc _
  refine (refusal2_any ((((w.alloc (Obj.cells #[.int .i64 k, .int .i64 n, .string s, .bool b] 29)).alloc (Obj.cells #[.int .i64 k', .int .i64 n', .string s', .bool b'] 29)).alloc (Obj.cells #[.int .i64 0, .int .i64 0, .string ⟨#[]⟩, .bool false] 29)).alloc (Obj.cells #[.int .i64 k, .int .i64 n, .string s, .bool b, .int .i64 k', .int .i64 n', .string s', .bool b'] 29)) hR4 op (w.heap.size + 1 + 1 + 1) k n s b k' n' s' b' (by simp) (by simp [go_sem]) (by simp [go_sem]) (by simp [go_sem]) (by simp [go_sem]) (by simp [go_sem]) (by simp [go_sem]) (by simp [go_sem]) (by simp [go_sem])).mono ?_
  rintro e w1 ⟨he, hb⟩
  refine ⟨he, hb.mono (by simp), by have := hb.size; simp at this; omega, ?_⟩
  exact (((((Below.refl _ _).alloc (Nat.le_refl _) _).alloc (by simp) _).alloc (by simp; omega) _).alloc (by simp; omega) _).trans (hb.mono (by simp; omega))
theorem binary_no (w : World) (hR : Rules w) (op k n : Int) (s : ByteArray) (b : Bool) (k' n' : Int) (s' : ByteArray) (b' : Bool) (hE : (binE op k n s b k' n' s' b' != 0) = true) :
   Calls Tryd.prog 20 #[.int .i64 op, .agg #[.int .i64 k, .int .i64 n, .string s, .bool b], .agg #[.int .i64 k', .int .i64 n', .string s', .bool b']] w
     fun e w' => e = .returned (.tuple #[.agg #[.int .i64 0, .int .i64 0, .string ⟨#[]⟩, .bool false], .int .i64 (binE op k n s b k' n' s' b')]) ∧ Below w.heap.size w w' := by
  have H := Lib.hid hR
  clear hR
  go_enter Tryd.func20, Tryd.ntmps20
  go_wp2_with (go_at_call 38; refine (refusal2_at _ H.out _ _ _ _ _ _ _ _ _).mono ?_; rintro e w1 ⟨rfl, hb1, hz1, hbb⟩; obtain ⟨hc1, hf1⟩ := bcell4 hb1)
  refine bodyPost_ret (v := .tuple #[.agg #[.int .i64 0, .int .i64 0, .string ⟨#[]⟩, .bool false], .int .i64 (binE op k n s b k' n' s' b')]) (by simp [results, Tryd.results20, go_sem, hc1]) rfl ⟨rfl, ?_⟩
  repeat (first | exact hbb | apply Below.drew | apply below_drewN | refine Below.setCell ?_ (by show w.heap.size ≤ w.heap.size + 1 + 1; omega) _ | refine Below.alloc ?_ (by first | omega | (simp [World.setCell]; done) | (simp [World.setCell]; omega)) _)
def CarryIs (op k n : Int) (s : ByteArray) (b : Bool) (k' n' : Int) (s' : ByteArray) (b' : Bool) (K N : Int) (S : ByteArray) (T : Bool) : Prop :=
  ∀ w : World, Rules w → Calls Tryd.prog 39 #[.int .i64 op, .agg #[.int .i64 k, .int .i64 n, .string s, .bool b], .agg #[.int .i64 k', .int .i64 n', .string s', .bool b']] w
      fun e w' => e = .returned (.agg #[.int .i64 K, .int .i64 N, .string S, .bool T]) ∧ Below w.heap.size w w'
theorem binary_yes (w : World) (hR : Rules w) (op k n : Int) (s : ByteArray) (b : Bool) (k' n' : Int) (s' : ByteArray) (b' : Bool) (K N : Int) (S : ByteArray) (T : Bool) (hE : (binE op k n s b k' n' s' b' != 0) = false)
   (hC : CarryIs op k n s b k' n' s' b' K N S T) :
   Calls Tryd.prog 20 #[.int .i64 op, .agg #[.int .i64 k, .int .i64 n, .string s, .bool b], .agg #[.int .i64 k', .int .i64 n', .string s', .bool b']] w
     fun e w' => e = .returned (.tuple #[.agg #[.int .i64 K, .int .i64 N, .string S, .bool T], .int .i64 0]) ∧ Below w.heap.size w w' := by
  have H := Lib.hid hR
  clear hR
  go_enter Tryd.func20, Tryd.ntmps20
  go_wp2_with (first | (go_at_call 38; refine (refusal2_at _ H.out _ _ _ _ _ _ _ _ _).mono ?_; rintro e w1 ⟨rfl, hb1, hz1, hbb⟩; obtain ⟨hc1, hf1⟩ := bcell4 hb1; have hzz : w.heap.size + 1 + 1 < w1.heap.size := (by omega)) | (go_at_call 39; refine (hC _ (H.out.below hbb)).mono ?_; rintro e w2 ⟨rfl, hb2⟩; obtain ⟨hc2, hf2⟩ := bcell hb2; have hzy := hb2.size))
  refine bodyPost_ret (v := .tuple #[.agg #[.int .i64 K, .int .i64 N, .string S, .bool T], .int .i64 0]) (by simp [results, Tryd.results20, go_sem, hc1, hc2, hzz]) rfl ⟨rfl, ?_⟩
  have hbz := hbb.trans (hb2.mono (by omega))
  repeat (first | exact hbz | apply Below.drew | apply below_drewN | refine Below.setCell ?_ (by show w.heap.size ≤ w.heap.size + 1 + 1; omega) _ | refine Below.alloc ?_ (by first | omega | (simp [World.setCell]; done) | (simp [World.setCell]; omega)) _)
theorem carryIs_0 (op : Int) (h : 3 ≤ op ∧ op ≤ 5) (k n : Int) (s : ByteArray) (b : Bool) (k' n' : Int) (s' : ByteArray) (b' : Bool) : CarryIs op k n s b k' n' s' b' 1 (reckonI op n n') ⟨#[]⟩ false := by
  intro w hR
  obtain ⟨o, rfl⟩ : ∃ o : Nat, op = o := ⟨op.toNat, by omega⟩
  refine carry_0 w o (by omega) k n s b k' n' s' b' hR.pos ?_
  rw [hR.does o (by omega)]
  have : o = 3 ∨ o = 4 ∨ o = 5 := by omega
  rcases this with rfl | rfl | rfl <;> rfl
theorem carryIs_1 (op : Int) (h : 6 ≤ op ∧ op ≤ 11) (k n : Int) (s : ByteArray) (b : Bool) (k' n' : Int) (s' : ByteArray) (b' : Bool) : CarryIs op k n s b k' n' s' b' 3 0 ⟨#[]⟩ (holdsB op (cmpV k n s b k' n' s' b')) := by
  intro w hR
  obtain ⟨o, rfl⟩ : ∃ o : Nat, op = o := ⟨op.toNat, by omega⟩
  refine carry_1 w o (by omega) (by omega) k n s b k' n' s' b' hR.pos ?_
  rw [hR.does o (by omega)]
  have : o = 6 ∨ o = 7 ∨ o = 8 ∨ o = 9 ∨ o = 10 ∨ o = 11 := by omega
  rcases this with rfl | rfl | rfl | rfl | rfl | rfl <;> rfl
theorem carryIs_2 (op : Int) (h : 12 ≤ op ∧ op ≤ 13) (k n : Int) (s : ByteArray) (b : Bool) (k' n' : Int) (s' : ByteArray) (b' : Bool) : CarryIs op k n s b k' n' s' b' 3 0 ⟨#[]⟩ (joinB op b b') := by
  intro w hR
  obtain ⟨o, rfl⟩ : ∃ o : Nat, op = o := ⟨op.toNat, by omega⟩
  refine carry_2 w o (by omega) k n s b k' n' s' b' hR.pos ?_
  rw [hR.does o (by omega)]
  have : o = 12 ∨ o = 13 := by omega
  rcases this with rfl | rfl <;> rfl
/-- what Binary answers: kind, number, text, truth value, error -/
def binV (op k n : Int) (s : ByteArray) (b : Bool) (k' n' : Int) (s' : ByteArray) (b' : Bool) : Int × Int × ByteArray × Bool :=
  if binE op k n s b k' n' s' b' = 0 then (if op ≤ 5 then (1, reckonI op n n', ⟨#[]⟩, false) else if op ≤ 11 then (3, 0, ⟨#[]⟩, holdsB op (cmpV k n s b k' n' s' b')) else (3, 0, ⟨#[]⟩, joinB op b b')) else (0, 0, ⟨#[]⟩, false)
theorem binary_any (w : World) (hR : Rules w) (op k n : Int) (s : ByteArray) (b : Bool) (k' n' : Int) (s' : ByteArray) (b' : Bool) :
   Calls Tryd.prog 20 #[.int .i64 op, .agg #[.int .i64 k, .int .i64 n, .string s, .bool b], .agg #[.int .i64 k', .int .i64 n', .string s', .bool b']] w
     fun e w' => e = .returned (.tuple #[.agg #[.int .i64 (binV op k n s b k' n' s' b').1, .int .i64 (binV op k n s b k' n' s' b').2.1, .string (binV op k n s b k' n' s' b').2.2.1, .bool (binV op k n s b k' n' s' b').2.2.2], .int .i64 (binE op k n s b k' n' s' b')]) ∧ Below w.heap.size w w' := by
  by_cases hE : binE op k n s b k' n' s' b' = 0
  · have hE' : (binE op k n s b k' n' s' b' != 0) = false := by simp [hE]
    have hop : ¬ (op < 3 ∨ 14 ≤ op) := by
      intro h
      unfold binE at hE
      rw [if_pos h] at hE
      omega
    unfold binV
    rw [if_pos hE, hE]
    by_cases h5 : op ≤ 5
    · rw [if_pos h5]
      exact binary_yes w hR op k n s b k' n' s' b' _ _ _ _ hE' (carryIs_0 op (by omega) k n s b k' n' s' b')
    · rw [if_neg h5]
      by_cases h11 : op ≤ 11
      · rw [if_pos h11]
        exact binary_yes w hR op k n s b k' n' s' b' _ _ _ _ hE' (carryIs_1 op (by omega) k n s b k' n' s' b')
      · rw [if_neg h11]
        exact binary_yes w hR op k n s b k' n' s' b' _ _ _ _ hE' (carryIs_2 op (by omega) k n s b k' n' s' b')
  · unfold binV
    rw [if_neg hE]
    exact binary_no w hR op k n s b k' n' s' b' (by simp [hE])
end Go.Proofs.YtcjibjiojgikjaaDoor
