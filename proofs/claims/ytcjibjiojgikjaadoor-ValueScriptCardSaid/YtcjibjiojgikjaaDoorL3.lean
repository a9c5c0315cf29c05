/- Contracts of value.carryOut. -/
import Derived.Test.YtcjibjiojgikjaaDoorL2a
import Derived.WalkKit
import Derived.WalkSpells
import Derived.WalkLawsBesides
import Derived.Lib.Hide
import Derived.BigQuiet
import Derived.LoopN
import Derived.Deep.QuietTactic
import Derived.Deep.RegionWith
namespace Go.Proofs.YtcjibjiojgikjaaDoor
open Go Go.RowKit
set_option maxHeartbeats 400000
set_option linter.unusedVariables false
set_option linter.unusedSimpArgs false
theorem carry_0 (w : World) (o : Nat) (h : o < 14) (k n : Int) (s : ByteArray) (b : Bool) (k' n' : Int) (s' : ByteArray) (b' : Bool) (h0 : 0 < w.heap.size)
    (hd : w.cell? ⟨0, o * 3 + 2, none⟩ = some (.int .i64 0)) :
    Calls Tryd.prog 39 #[.int .i64 o, .agg #[.int .i64 k, .int .i64 n, .string s, .bool b], .agg #[.int .i64 k', .int .i64 n', .string s', .bool b']] w
      fun e w' => e = .returned (.agg #[.int .i64 1, .int .i64 (reckonI o n n'), .string ⟨#[]⟩, .bool false]) ∧ Below w.heap.size w w' := by
  go_enter Tryd.func39, Tryd.ntmps39
  go_wp2_with (first | (go_at_call 56; refine (reckon_any _ _ _ _).mono ?_; rintro e w' ⟨rfl, rfl⟩) | (go_at_call 30; refine (number_any _ _).mono ?_; rintro e w' ⟨rfl, rfl⟩))
  refine bodyPost_ret (v := .agg #[.int .i64 1, .int .i64 (reckonI o n n'), .string ⟨#[]⟩, .bool false]) (by simp [results, Tryd.results39, go_sem]) rfl ⟨rfl, ?_⟩
  repeat (first | exact Below.refl _ _ | apply Below.drew | apply below_drewN | refine Below.alloc ?_ (by first | omega | (simp; done) | (simp; omega)) _)
theorem carry_2 (w : World) (o : Nat) (h : o < 14) (k n : Int) (s : ByteArray) (b : Bool) (k' n' : Int) (s' : ByteArray) (b' : Bool) (h0 : 0 < w.heap.size)
    (hd : w.cell? ⟨0, o * 3 + 2, none⟩ = some (.int .i64 2)) :
    Calls Tryd.prog 39 #[.int .i64 o, .agg #[.int .i64 k, .int .i64 n, .string s, .bool b], .agg #[.int .i64 k', .int .i64 n', .string s', .bool b']] w
      fun e w' => e = .returned (.agg #[.int .i64 3, .int .i64 0, .string ⟨#[]⟩, .bool (joinB o b b')]) ∧ Below w.heap.size w w' := by
  go_enter Tryd.func39, Tryd.ntmps39
  go_wp2_with (first | (go_at_call 58; refine (join_any _ _ _ _).mono ?_; rintro e w' ⟨rfl, rfl⟩) | (go_at_call 32; refine (truth_any _ _).mono ?_; rintro e w' ⟨rfl, rfl⟩))
  refine bodyPost_ret (v := .agg #[.int .i64 3, .int .i64 0, .string ⟨#[]⟩, .bool (joinB o b b')]) (by simp [results, Tryd.results39, go_sem]) rfl ⟨rfl, ?_⟩
  repeat (first | exact Below.refl _ _ | apply Below.drew | apply below_drewN | refine Below.alloc ?_ (by first | omega | (simp; done) | (simp; omega)) _)
theorem cmpI_mem (a b : Int) : cmpI a b = -1 ∨ cmpI a b = 0 ∨ cmpI a b = 1 := by
  unfold cmpI; split
  · exact .inl rfl
  · split
    · exact .inr (.inr rfl)
    · exact .inr (.inl rfl)
theorem cmpS_mem (a b : ByteArray) : cmpS a b = -1 ∨ cmpS a b = 0 ∨ cmpS a b = 1 := by
  unfold cmpS; split
  · exact .inl rfl
  · split
    · exact .inr (.inl rfl)
    · exact .inr (.inr rfl)
theorem cmpV_mem (k n : Int) (s : ByteArray) (b : Bool) (k' n' : Int) (s' : ByteArray) (b' : Bool) : cmpV k n s b k' n' s' b' = -1 ∨ cmpV k n s b k' n' s' b' = 0 ∨ cmpV k n s b k' n' s' b' = 1 := by
  unfold cmpV
  split
  · split
    · split
      · exact cmpI_mem _ _
      · exact cmpS_mem _ _
    · exact cmpI_mem _ _
  · exact cmpI_mem _ _
theorem carry_1 (w : World) (o : Nat) (h : 6 ≤ o) (h11 : o ≤ 11) (k n : Int) (s : ByteArray) (b : Bool) (k' n' : Int) (s' : ByteArray) (b' : Bool) (h0 : 0 < w.heap.size)
    (hd : w.cell? ⟨0, o * 3 + 2, none⟩ = some (.int .i64 1)) :
    Calls Tryd.prog 39 #[.int .i64 o, .agg #[.int .i64 k, .int .i64 n, .string s, .bool b], .agg #[.int .i64 k', .int .i64 n', .string s', .bool b']] w
      fun e w' => e = .returned (.agg #[.int .i64 3, .int .i64 0, .string ⟨#[]⟩, .bool (holdsB o (cmpV k n s b k' n' s' b'))]) ∧ Below w.heap.size w w' := by
  have hm := Lib.hid (cmpV_mem k n s b k' n' s' b')
  go_enter Tryd.func39, Tryd.ntmps39
  go_wp2_with (first | (go_at_call 15; refine (compare_any _ _ _ _ _ _ _ _ _).mono ?_; rintro e w1 ⟨rfl, hb1⟩; obtain ⟨hc1, hf1⟩ := bcell hb1; have hz1 : w.heap.size + 2 < w1.heap.size := (by have := hb1.size; simp at this; omega)) | (go_at_call 57; refine (holds_at _ _ (by omega) hm.out _).mono ?_; rintro e w9 ⟨rfl, hw9⟩; subst w9) | (go_at_call 32; refine (truth_any _ _).mono ?_; rintro e w' ⟨rfl, rfl⟩))
  refine bodyPost_ret (v := .agg #[.int .i64 3, .int .i64 0, .string ⟨#[]⟩, .bool (holdsB o (cmpV k n s b k' n' s' b'))]) (by simp [results, Tryd.results39, go_sem, hz1, hc1]) rfl ⟨rfl, ?_⟩
  have hbb := (((Below.refl w.heap.size w).alloc (Nat.le_refl _) (Obj.cells #[.int .i64 k, .int .i64 n, .string s, .bool b] 29)).alloc (by simp) (Obj.cells #[.int .i64 k', .int .i64 n', .string s', .bool b'] 29)).alloc (by simp; omega) (Obj.cells #[.int .i64 0, .int .i64 0, .string ⟨#[]⟩, .bool false] 29) |>.trans (hb1.mono (by simp; omega))
  repeat (first | exact hbb | apply Below.drew | apply below_drewN | refine Below.setCell ?_ (by show w.heap.size ≤ w.heap.size + 1 + 1; omega) _ | refine Below.alloc ?_ (by first | omega | (simp [World.setCell]; done) | (simp [World.setCell]; omega)) _)
end Go.Proofs.YtcjibjiojgikjaaDoor
