/- Contracts of the reader's take and one. -/
import Derived.Test.YtlinpkmfjkcoiaaDoorR1
namespace Go.Proofs.YtlinpkmfjkcoiaaDoor
open Go Go.RowKit
set_option maxHeartbeats 2000000
set_option linter.unusedVariables false
set_option linter.unusedSimpArgs false
attribute [local go_sem ↓] run_rest run_front
theorem Rdr.drewN {w : World} {R : Nat} {sv : Value} {a : Nat} {f : Int} (h : Rdr w R sv a f) (n : Nat) : Rdr (w.drewN n) R sv a f := ⟨h.c0, h.c1, h.c2, h.z1, h.z2⟩
theorem grown_drewN (w : World) (n : Nat) (row : Option Nat) : w.grownBy (w.drewN n) row := ⟨rfl, rfl, rfl, Nat.le_refl _, fun _ _ _ => rfl⟩
def Taken (w : World) (R : Nat) (sv : Value) (l : List UInt8) (a : Nat) (f n : Int) (e : Ending) (w' : World) : Prop :=
  ∃ (q : Option Addr) (ys : List UInt8) (d a' : Nat) (f' : Int), e = .returned (.slice q ys.length d) ∧ After w w' R sv l.length a' f' ∧ Byt w' R q ys ∧ ys.length ≤ d ∧ d ≤ maxLen ∧ Came a a' f f' (takeN n.toNat (l.drop a)) (· = ys) ∧ (f' ≠ 0 → ys = [])
set_option maxRecDepth 100000 in
theorem take_any (R : Nat) (p : Option Addr) (c : Nat) (l : List UInt8) (a : Nat) (f n : Int) (w : World) (hr : Rdr w R (.slice p l.length c) a f) (hb : Byt w R p l) (ha : a ≤ l.length) (hc : l.length ≤ c) (hm : c ≤ maxLen) (hn : f = 0 → 0 ≤ n) (hi : I64 n) :
    Calls Tryd.prog 88 #[.pointer (some ⟨R, 0, none⟩), .int .i64 n] w (Taken w R (.slice p l.length c) l a f n) := by
  have HB := Lib.hid hb
  have HR := Lib.hid hr
  have HM := Lib.hid hm
  obtain ⟨m, hml⟩ : ∃ m, m = l.length := ⟨_, rfl⟩
  have HL := Lib.hid hml
  rw [← hml] at ha hc hr ⊢
  unfold maxLen at hm
  obtain ⟨c0, c1, c2, z1, z2⟩ := hr
  clear hb hml
  by_cases hf : f = 0
  · subst hf
    have h0 : 0 ≤ n := hn rfl
    obtain ⟨k, rfl⟩ : ∃ k : Nat, n = k := ⟨n.toNat, by omega⟩
    by_cases hk : k ≤ m - a
    · have hd : decide ((k : Int) ≤ ((m - a : Nat) : Int)) = true := by simp; omega
      have hca : k ≤ c - a := by omega
      go_enter Tryd.func88, Tryd.ntmps88
      go_wp2
      go_quiet (fail)
      obtain ⟨w1, hw1⟩ : ∃ w1, w1 = w.drewN nq := ⟨_, rfl⟩
      rw [← hw1]
      have hr1 : Rdr w1 R (.slice p m c) a 0 := by rw [hw1, HL.out]; exact HR.out.drewN nq
      have G1 : Hid (w.grownBy w1 (some R)) := by show World.grownBy _ _ _; rw [hw1]; exact grown_drewN w nq _
      have HR1 := Lib.hid hr1
      obtain ⟨d0, d1, d2, y1, y2⟩ := hr1
      clear hw1 c0 c1 c2 z1 z2
      go_wp2_with fail
      refine (demand_any R (.slice p m c) a 0 true 30 w1 HR1.out).mono ?_
      rintro e w2 ⟨rfl, hw2⟩
      rw [if_neg (by simp)] at hw2
      obtain rfl := hw2.symm
      go_wp2
      go_ret
      have hml := HL.out
      refine ⟨restP p a c, (l.drop a).take k, c - a, a + k, 0, ?_, ⟨Lib.grownBy_setB G1.out 1 _, ?_, by omega⟩, ?_, ?_, by unfold maxLen; omega, .inr ⟨rfl, ?_⟩, fun h => absurd rfl h⟩
      · rw [List.length_take, List.length_drop, Nat.min_eq_left (by omega)]
        rfl
      · exact HR1.out.at (a + k)
      · exact ((HB.out.drop (by omega)).take k).grown (Lib.grownBy_setB G1.out 1 _)
      · rw [List.length_take, List.length_drop]; omega
      · simp only [takeN, List.length_drop, Int.toNat_natCast]
        rw [if_pos (by omega)]
        simp
    · have hd : decide ((k : Int) ≤ ((m - a : Nat) : Int)) = false := by simp; omega
      go_enter Tryd.func88, Tryd.ntmps88
      go_wp2
      go_quiet (fail)
      obtain ⟨w1, hw1⟩ : ∃ w1, w1 = w.drewN nq := ⟨_, rfl⟩
      rw [← hw1]
      have hr1 : Rdr w1 R (.slice p m c) a 0 := by rw [hw1, HL.out]; exact HR.out.drewN nq
      have G1 : Hid (w.grownBy w1 (some R)) := by show World.grownBy _ _ _; rw [hw1]; exact grown_drewN w nq _
      have HR1 := Lib.hid hr1
      obtain ⟨d0, d1, d2, y1, y2⟩ := hr1
      clear hw1 c0 c1 c2 z1 z2
      go_wp2_with fail
      refine (demand_any R (.slice p m c) a 0 false 30 w1 HR1.out).mono ?_
      rintro e w2 ⟨rfl, hw2⟩
      rw [if_pos ⟨rfl, rfl⟩] at hw2
      obtain rfl := hw2.symm
      go_wp2
      go_ret
      have hml := HL.out
      refine ⟨none, [], 0, a, 30, rfl, ⟨Lib.grownBy_setB G1.out 2 _, HR1.out.bad 30, by omega⟩, Byt.nil _ _ _, by simp, by unfold maxLen; omega, .inr ⟨rfl, ?_⟩, fun _ => rfl⟩
      simp only [takeN, List.length_drop, Int.toNat_natCast]
      rw [if_neg (by omega)]
      exact ⟨rfl, by decide⟩
  · have hff : (f == 0) = false := by simpa using hf
    have HF := Lib.hid hf
    obtain ⟨ok, hok⟩ : ∃ ok, ok = decide (n ≤ ((m - a : Nat) : Int)) := ⟨_, rfl⟩
    obtain ⟨h0, h1⟩ := hi
    clear hf
    go_enter Tryd.func88, Tryd.ntmps88
    go_wp2
    go_quiet (fail)
    obtain ⟨w1, hw1⟩ : ∃ w1, w1 = w.drewN nq := ⟨_, rfl⟩
    rw [← hw1]
    have hr1 : Rdr w1 R (.slice p m c) a f := by rw [hw1, HL.out]; exact HR.out.drewN nq
    have G1 : Hid (w.grownBy w1 (some R)) := by show World.grownBy _ _ _; rw [hw1]; exact grown_drewN w nq _
    have HR1 := Lib.hid hr1
    obtain ⟨d0, d1, d2, y1, y2⟩ := hr1
    have HO := Lib.hid hok
    clear hw1 c0 c1 c2 z1 z2 hok
    go_wp2_with fail
    refine (demand_any R (.slice p m c) a f _ 30 w1 HR1.out).mono ?_
    rintro e w2 ⟨rfl, hw2⟩
    rw [if_neg (fun h => HF.out h.1)] at hw2
    obtain rfl := hw2.symm
    go_wp2
    go_ret
    have hml := HL.out
    exact ⟨none, [], 0, a, f, rfl, ⟨G1.out, HR1.out, by omega⟩, Byt.nil _ _ _, by simp, by unfold maxLen; omega, .inl ⟨HF.out, rfl⟩, fun _ => rfl⟩
/-! ### one -/
def One (w : World) (R : Nat) (sv : Value) (l : List UInt8) (a : Nat) (f : Int) (e : Ending) (w' : World) : Prop :=
  ∃ (x : UInt8) (a' : Nat) (f' : Int), e = .returned (.int .u8 (x.toNat : Int)) ∧ After w w' R sv l.length a' f' ∧ Came a a' f f' (oneR (l.drop a)) (· = x) ∧ (f' ≠ 0 → x.toNat = 0)
theorem one_any (R : Nat) (p : Option Addr) (c : Nat) (l : List UInt8) (a : Nat) (f : Int) (w : World) (hr : Rdr w R (.slice p l.length c) a f) (hb : Byt w R p l) (ha : a ≤ l.length) (hc : l.length ≤ c) (hm : c ≤ maxLen) :
    Calls Tryd.prog 74 #[.pointer (some ⟨R, 0, none⟩)] w (One w R (.slice p l.length c) l a f) := by
  obtain ⟨m, hml⟩ : ∃ m, m = l.length := ⟨_, rfl⟩
  have ht := take_any R p c l a f 1 w hr hb ha hc hm (fun _ => by omega) (by unfold I64; omega)
  have HL := Lib.hid hml
  rw [← hml] at ht ⊢
  clear hml hr hb
  go_enter Tryd.func74, Tryd.ntmps74
  go_wp2_with fail
  refine ht.mono ?_
  rintro e w1 ⟨q, ys, d, a', f', rfl, haf, hby, hyd, hdm, hca, hno⟩
  have HAF := Lib.hid haf
  have HCA := Lib.hid hca
  have HNO := Lib.hid hno
  clear haf hca hno ht
  cases ys with
  | nil =>
    go_wp2
    go_ret
    refine ⟨0, a', f', rfl, HAF.out, ?_, fun _ => rfl⟩
    rcases HCA.out with h | ⟨h0, h⟩
    · exact .inl h
    · refine .inr ⟨h0, ?_⟩
      cases hd : l.drop a with
      | nil =>
        rw [hd] at h
        exact h
      | cons b t =>
        rw [hd] at h
        simp [takeN] at h
  | cons b t =>
    obtain ⟨bb, o, rfl, hne, c0⟩ := hby 0 (by simp)
    have hl1 : decide ((((b :: t).length : Nat) : Int) = 0) = false := by simp; omega
    simp only [List.getElem_cons_zero, Nat.add_zero] at c0
    go_wp2
    go_ret
    have hf0 : f' = 0 := by
      rcases Int.decEq f' 0 with h | h
      · exact absurd (HNO.out h) (by simp)
      · exact h
    refine ⟨b, a', f', rfl, HAF.out, ?_, fun h => absurd hf0 h⟩
    rcases HCA.out with ⟨h1, h2⟩ | ⟨h0, h⟩
    · exact absurd (h2.symm.trans hf0) h1
    · refine .inr ⟨h0, ?_⟩
      cases hd : l.drop a with
      | nil =>
        rw [hd] at h
        simp [takeN] at h
        omega
      | cons b' t' =>
        rw [hd] at h
        simp [takeN] at h
        obtain ⟨h1, h2, h3, h4⟩ := h
        exact ⟨h1, h2, h3⟩
end Go.Proofs.YtlinpkmfjkcoiaaDoor
