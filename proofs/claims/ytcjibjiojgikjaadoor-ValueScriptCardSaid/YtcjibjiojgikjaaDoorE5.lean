/- Contracts of the document's own answer's sign, below and Compare. -/
import Derived.Test.YtcjibjiojgikjaaDoorO2
import Derived.WalkKit
import Derived.WalkSpells
import Derived.WalkLawsBesides
import Derived.Lib.Hide
import Derived.LoopN
import Derived.LoopTactic
namespace Go.Proofs.YtcjibjiojgikjaaDoor
open Go Go.RowKit
set_option maxHeartbeats 1000000
set_option linter.unusedVariables false
set_option linter.unusedSimpArgs false
theorem sign_r (a b : Int) (w : World) : Calls Tryd.prog 44 #[.int .i64 a, .int .i64 b] w fun e w' => e = .returned (.int .i64 (cmpI a b)) ∧ w' = w := by
  by_cases h : a < b
  · have He : Hid (cmpI a b = -1) := by show _ = _; unfold cmpI; rw [if_pos h]
    go_enter Tryd.func44, Tryd.ntmps44
    go_wp2
    go_ret
    exact ⟨by rw [He.out]; rfl, rfl⟩
  · by_cases h2 : b < a
    · have He : Hid (cmpI a b = 1) := by show _ = _; unfold cmpI; rw [if_neg h, if_pos h2]
      go_enter Tryd.func44, Tryd.ntmps44
      go_wp2
      go_ret
      exact ⟨by rw [He.out]; rfl, rfl⟩
    · have He : Hid (cmpI a b = 0) := by show _ = _; unfold cmpI; rw [if_neg h, if_neg h2]
      go_enter Tryd.func44, Tryd.ntmps44
      go_wp2
      go_ret
      exact ⟨by rw [He.out]; rfl, rfl⟩
theorem cmpL_same (x : UInt8) (l m : List UInt8) : cmpL (x :: l) (x :: m) = cmpL l m := by
  unfold cmpL
  simp [Op.bytesLess]
theorem cmpL_lt {x y : UInt8} (l m : List UInt8) (h : x.toNat < y.toNat) : cmpL (x :: l) (y :: m) = -1 := by
  unfold cmpL
  rw [if_pos]
  have h' : x < y := h
  simp [Op.bytesLess, h']
theorem cmpL_gt {x y : UInt8} (l m : List UInt8) (h : y.toNat < x.toNat) : cmpL (x :: l) (y :: m) = 1 := by
  have h' : ¬ x < y := fun h2 => by
    have : x.toNat < y.toNat := h2
    omega
  have h3 : x ≠ y := fun e => by rw [e] at h; omega
  have h4 : y < x := h
  unfold cmpL
  rw [if_neg, if_neg]
  · simp [h3]
  · simp [Op.bytesLess, h', h4, h3]
theorem cmpL_nil (m : List UInt8) : cmpL [] m = cmpI 0 m.length := by
  cases m with
  | nil => decide
  | cons y m => unfold cmpL cmpI; simp [Op.bytesLess]
theorem cmpL_nil' (l : List UInt8) : cmpL l [] = cmpI l.length 0 := by
  cases l with
  | nil => decide
  | cons y m => unfold cmpL cmpI; simp [Op.bytesLess]; omega
theorem drop_at (s : ByteArray) (k : Nat) (h : k < s.size) : s.data.toList.drop k = s[k] :: s.data.toList.drop (k + 1) := by
  rw [List.drop_eq_getElem_cons (by simpa using h)]
  rfl
theorem drop_end (s : ByteArray) (k : Nat) (h : s.size ≤ k) : s.data.toList.drop k = [] := List.drop_of_length_le (by simpa using h)
theorem cmpI_shift (a b : Int) (k : Int) : cmpI (a - k) (b - k) = cmpI a b := by
  unfold cmpI
  by_cases h1 : a < b
  · rw [if_pos h1, if_pos (by omega)]
  · by_cases h2 : b < a
    · rw [if_neg h1, if_pos h2, if_neg (by omega), if_pos (by omega)]
    · rw [if_neg h1, if_neg h2, if_neg (by omega), if_neg (by omega)]
theorem below_end (a b : ByteArray) (k : Nat) (ha : k ≤ a.size) (hb : k ≤ b.size) (h : a.size ≤ k ∨ b.size ≤ k) : cmpL (a.data.toList.drop k) (b.data.toList.drop k) = cmpI a.size b.size := by
  rcases h with h | h
  · rw [drop_end a k h, cmpL_nil]
    have : k = a.size := by omega
    subst this
    rw [← cmpI_shift a.size b.size a.size]
    simp
    congr 1
    omega
  · rw [drop_end b k h, cmpL_nil']
    have : k = b.size := by omega
    subst this
    rw [← cmpI_shift a.size b.size b.size]
    simp
    congr 1
    omega
set_option maxRecDepth 100000 in
theorem below_r (a b : ByteArray) (hza : a.size ≤ maxLen) (w : World) : Calls Tryd.prog 45 #[.string a, .string b] w fun e w' => e = .returned (.int .i64 (cmpS a b)) ∧ Below w.heap.size w w' := by
  unfold maxLen at hza
  go_enter Tryd.func45, Tryd.ntmps45
  go_wp2
  go_loopw [5] (fun i wr => ∃ k : Nat, k ≤ a.size ∧ k ≤ b.size ∧ i = .int .i64 k ∧ cmpS a b = cmpL (a.data.toList.drop k) (b.data.toList.drop k) ∧ Below w.heap.size w wr) (fun i _ => a.size - (intOf i).toNat)
  case atStart => exact ⟨0, Nat.zero_le _, Nat.zero_le _, rfl, by simp [cmpS_L], Below.refl _ _⟩
  case round =>
    obtain ⟨k, ha, hb, rfl, hc, hw⟩ := hrel
    have HC := Lib.hid hc
    clear hc
    by_cases h1 : k < a.size
    · by_cases h2 : k < b.size
      · have hda := drop_at a k h1
        have hdb := drop_at b k h2
        rcases Nat.lt_trichotomy a[k].toNat b[k].toNat with h | h | h
        · have He : Hid (cmpS a b = -1) := by show _ = _; rw [HC.out, hda, hdb, cmpL_lt _ _ h]
          have q : ((a[k].toNat : Int) < (b[k].toNat : Int)) := by omega
          clear hda hdb
          go_wp2
          go_region
          go_wp2
          go_ret
          exact ⟨by rw [He.out]; rfl, hw.drew⟩
        · have He : Hid (cmpS a b = cmpL (a.data.toList.drop (k + 1)) (b.data.toList.drop (k + 1))) := by
            show _ = _
            have : a[k] = b[k] := UInt8.toNat_inj.1 h
            rw [HC.out, hda, hdb, this, cmpL_same]
          have q : ((a[k].toNat : Int) = (b[k].toNat : Int)) := by omega
          clear hda hdb h
          go_wp2
          go_region
          go_wp2
          go_region
          go_wp2
          go_roundw
          case rel => exact ⟨k + 1, by omega, by omega, by go_num, He.out, hw.drew.drew⟩
          case measure => simp [intOf]; omega
        · have He : Hid (cmpS a b = 1) := by show _ = _; rw [HC.out, hda, hdb, cmpL_gt _ _ h]
          have q : ((b[k].toNat : Int) < (a[k].toNat : Int)) := by omega
          have q2 : ¬ ((a[k].toNat : Int) < (b[k].toNat : Int)) := by omega
          clear hda hdb
          go_wp2
          go_region
          go_wp2
          go_region
          go_wp2
          go_ret
          exact ⟨by rw [He.out]; rfl, hw.drew.drew⟩
      · have He : Hid (cmpS a b = cmpI a.size b.size) := by show _ = _; rw [HC.out, below_end a b k ha hb (.inr (by omega))]
        go_wp2_with (go_at_call 44; refine (sign_r _ _ _).mono ?_; rintro e w' ⟨rfl, rfl⟩)
        go_ret
        exact ⟨by rw [He.out]; rfl, hw⟩
    · have He : Hid (cmpS a b = cmpI a.size b.size) := by show _ = _; rw [HC.out, below_end a b k ha hb (.inl (by omega))]
      go_wp2_with (go_at_call 44; refine (sign_r _ _ _).mono ?_; rintro e w' ⟨rfl, rfl⟩)
      go_ret
      exact ⟨by rw [He.out]; rfl, hw⟩
theorem beq_zero_iff (c : Int) : (c == 0) = decide (c = 0) := rfl
set_option maxRecDepth 100000 in
theorem compare_r (k n : Int) (s : ByteArray) (b : Bool) (k' n' : Int) (s' : ByteArray) (b' : Bool) (hz : s.size ≤ maxLen) (w : World) :
    Calls Tryd.prog 24 #[.agg #[.int .i64 k, .int .i64 n, .string s, .bool b], .agg #[.int .i64 k', .int .i64 n', .string s', .bool b']] w fun e w' => e = .returned (.int .i64 (cmpV k n s b k' n' s' b')) ∧ Below w.heap.size w w' := by
  have HB : Hid (∀ o o' w', Below ((w.alloc o).alloc o').heap.size ((w.alloc o).alloc o') w' → Below w.heap.size w w') := fun o o' w' h => (((Below.refl _ _).alloc (Nat.le_refl _) o).alloc (by simp) o').trans (h.mono (by simp; omega))
  have HZ := Lib.hid hz
  clear hz
  by_cases h1 : k = k'
  · subst h1
    have e1 : cmpI k k = 0 := by unfold cmpI; rw [if_neg (by omega), if_neg (by omega)]
    by_cases h2 : n = n'
    · subst h2
      have e2 : cmpI n n = 0 := by unfold cmpI; rw [if_neg (by omega), if_neg (by omega)]
      have hm : cmpS s s' = -1 ∨ cmpS s s' = 0 ∨ cmpS s s' = 1 := by unfold cmpS; split <;> (try split) <;> simp
      rcases hm with hm | hm | hm
      · have He : Hid (cmpV k n s b k n s' b' = -1) := by show _ = _; unfold cmpV; rw [if_pos e1, if_pos e2, hm]; rfl
        clear e1 e2
        go_enter Tryd.func24, Tryd.ntmps24
        go_wp2_with (go_at_call 45; refine (below_r _ _ HZ.out _).mono ?_; rw [hm]; rintro e w1 ⟨rfl, hb1⟩; obtain ⟨hc1, hf1⟩ := bcell hb1)
        go_ret
        exact ⟨by rw [He.out]; rfl, HB.out _ _ _ hb1⟩
      · have He : Hid (cmpV k n s b k n s' b' = cmpI (rankB b) (rankB b')) := by show _ = _; unfold cmpV; rw [if_pos e1, if_pos e2, hm]; rfl
        clear e1 e2
        cases b <;> cases b'
        all_goals
          go_enter Tryd.func24, Tryd.ntmps24
          go_wp2_with (go_at_call 45; refine (below_r _ _ HZ.out _).mono ?_; rw [hm]; rintro e w1 ⟨rfl, hb1⟩; obtain ⟨hc1, hf1⟩ := bcell hb1)
          go_ret
          exact ⟨by rw [He.out]; rfl, HB.out _ _ _ hb1⟩
      · have He : Hid (cmpV k n s b k n s' b' = 1) := by show _ = _; unfold cmpV; rw [if_pos e1, if_pos e2, hm]; rfl
        clear e1 e2
        go_enter Tryd.func24, Tryd.ntmps24
        go_wp2_with (go_at_call 45; refine (below_r _ _ HZ.out _).mono ?_; rw [hm]; rintro e w1 ⟨rfl, hb1⟩; obtain ⟨hc1, hf1⟩ := bcell hb1)
        go_ret
        exact ⟨by rw [He.out]; rfl, HB.out _ _ _ hb1⟩
    · have e2 : cmpI n n' ≠ 0 := by unfold cmpI; split <;> (try split) <;> omega
      have He : Hid (cmpV k n s b k n' s' b' = cmpI n n') := by show _ = _; unfold cmpV; rw [if_pos e1, if_neg e2]
      have q : (n != n') = true := by simp [h2]
      clear e1 e2 h2
      go_enter Tryd.func24, Tryd.ntmps24
      go_wp2_with (go_at_call 44; refine (sign_r _ _ _).mono ?_; rintro e w' ⟨rfl, rfl⟩)
      go_ret
      exact ⟨by rw [He.out]; rfl, HB.out _ _ _ (Below.refl _ _)⟩
  · have e1 : cmpI k k' ≠ 0 := by unfold cmpI; split <;> (try split) <;> omega
    have He : Hid (cmpV k n s b k' n' s' b' = cmpI k k') := by show _ = _; unfold cmpV; rw [if_neg e1]
    have q : (k != k') = true := by simp [h1]
    clear e1 h1
    go_enter Tryd.func24, Tryd.ntmps24
    go_wp2_with (go_at_call 44; refine (sign_r _ _ _).mono ?_; rintro e w' ⟨rfl, rfl⟩)
    go_ret
    exact ⟨by rw [He.out]; rfl, HB.out _ _ _ (Below.refl _ _)⟩
end Go.Proofs.YtcjibjiojgikjaaDoor
