/- How the reference reads a number: plain facts. -/
import Derived.Test.YtlinpkmfjkcoiaaDoorH2
namespace Go.Proofs.YtlinpkmfjkcoiaaDoor
set_option maxHeartbeats 1000000
set_option linter.unusedVariables false
/-- groups put together -/
def zval : List UInt8 → Nat
  | [] => 0
  | b :: t => b.toNat % 128 + 128 * zval t
theorem zval_snoc : ∀ (l : List UInt8) (b : UInt8), zval (l ++ [b]) = zval l + 128 ^ l.length * (b.toNat % 128)
  | [], b => by simp [zval]
  | a :: l, b => by
    have := zval_snoc l b
    rw [List.cons_append, zval, zval, this, List.length_cons, Nat.pow_succ, Nat.mul_add, Nat.mul_comm (128 ^ l.length) 128, Nat.mul_assoc]
    omega
theorem zval_lt : ∀ (l : List UInt8), zval l < 128 ^ l.length
  | [] => by simp [zval]
  | a :: l => by
    have := zval_lt l
    rw [zval, List.length_cons, Nat.pow_succ]
    omega
theorem zval_take {l : List UInt8} {k : Nat} (h : k < l.length) : zval (l.take (k + 1)) = zval (l.take k) + 128 ^ k * (l[k].toNat % 128) := by
  rw [List.take_succ_eq_append_getElem h, zval_snoc, List.length_take, Nat.min_eq_left (by omega)]
/-- so many bytes are followed by another one -/
def Lead (l : List UInt8) (n : Nat) : Prop := ∀ j (h : j < l.length), j < n → 128 ≤ l[j].toNat
theorem Lead.zero (l : List UInt8) : Lead l 0 := fun j _ h => absurd h (Nat.not_lt_zero _)
theorem Lead.succ {l : List UInt8} {n : Nat} (h : Lead l n) (hn : n < l.length) (hb : 128 ≤ l[n].toNat) : Lead l (n + 1) := fun j hj hjn => by
  by_cases e : j = n
  · subst e; exact hb
  · exact h j hj (by omega)
theorem Lead.tail {b : UInt8} {l : List UInt8} {n : Nat} (h : Lead (b :: l) (n + 1)) : Lead l n := fun j hj hjn => h (j + 1) (by simpa using hj) (by omega)
theorem rdz_last : ∀ (n i : Nat) (l : List UInt8) (hn : n < l.length), i + n ≤ 9 → Lead l n → l[n].toNat < 128 → (i + n = 9 → l[n].toNat ≤ 1) → rdz i l = if l[n].toNat = 0 ∧ i + n ≠ 0 then .bad 31 else .ok (zval (l.take (n + 1))) (n + 1)
  | 0, i, b :: t, hn, h9, hl, hb, h1 => by
    simp only [List.getElem_cons_zero, Nat.add_zero] at hb h1 ⊢
    simp only [rdz]
    rw [if_neg (by omega), if_pos hb]
    have e : zval ((b :: t).take 1) = b.toNat := by simp [zval]; omega
    rw [e]
  | n + 1, i, b :: t, hn, h9, hl, hb, h1 => by
    simp only [List.getElem_cons_succ] at hb h1 ⊢
    have hb0 := hl 0 (by simp) (by omega)
    simp only [List.getElem_cons_zero] at hb0
    simp only [rdz]
    rw [if_neg (by omega), if_neg (by omega), rdz_last n (i + 1) t (by simpa using hn) (by omega) hl.tail hb (by intro h; exact h1 (by omega))]
    have hn' : n < t.length := by simpa using hn
    by_cases hz : t[n].toNat = 0
    · rw [if_pos ⟨hz, by omega⟩, if_pos ⟨hz, by omega⟩]
    · rw [if_neg (fun h => hz h.1), if_neg (fun h => hz h.1)]
      simp [zval]
theorem rdz_great : ∀ (n i : Nat) (l : List UInt8) (hn : n < l.length), i + n = 9 → Lead l n → 1 < l[n].toNat → rdz i l = .bad 31
  | 0, i, b :: t, hn, h9, hl, hb => by
    simp only [List.getElem_cons_zero] at hb
    simp only [rdz]
    rw [if_pos ⟨by omega, hb⟩]
  | n + 1, i, b :: t, hn, h9, hl, hb => by
    simp only [List.getElem_cons_succ] at hb
    have hb0 := hl 0 (by simp) (by omega)
    simp only [List.getElem_cons_zero] at hb0
    simp only [rdz]
    rw [if_neg (by omega), if_neg (by omega), rdz_great n (i + 1) t (by simpa using hn) (by omega) hl.tail hb]
theorem rdz_end : ∀ (l : List UInt8) (i : Nat), i + l.length ≤ 9 → Lead l l.length → rdz i l = .bad 30
  | [], i, _, _ => rfl
  | b :: t, i, h9, hl => by
    have hb0 := hl 0 (by simp) (by simp)
    simp only [List.getElem_cons_zero] at hb0
    simp only [List.length_cons] at h9 hl
    simp only [rdz]
    rw [if_neg (by omega), if_neg (by omega), rdz_end t (i + 1) (by omega) hl.tail]
theorem num_end {l : List UInt8} (h9 : l.length ≤ 9) (hl : Lead l l.length) : num l = .bad 30 := by
  unfold num
  rw [rdz_end l 0 (by omega) hl]
theorem num_great {l : List UInt8} (h9 : 9 < l.length) (hl : Lead l 9) (hb : 1 < l[9].toNat) : num l = .bad 31 := by
  unfold num
  rw [rdz_great 9 0 l h9 (by omega) hl hb]
/-- what is read is what would be written, or it is refused -/
theorem num_last {l : List UInt8} {n : Nat} (hn : n < l.length) (h9 : n ≤ 9) (hl : Lead l n) (hb : l[n].toNat < 128) (h1 : n = 9 → l[n].toNat ≤ 1) :
    ((put (zag (zval (l.take (n + 1)))) == l.take (n + 1)) = true ∧ num l = .ok (zag (zval (l.take (n + 1)))) (n + 1)) ∨ ((put (zag (zval (l.take (n + 1)))) == l.take (n + 1)) = false ∧ num l = .bad 31) := by
  have hr := rdz_last n 0 l hn (by omega) hl hb (by intro h; exact h1 (by omega))
  by_cases hz : l[n].toNat = 0 ∧ 0 + n ≠ 0
  · rw [if_pos hz] at hr
    refine .inr ⟨?_, by unfold num; rw [hr]⟩
    cases he : (put (zag (zval (l.take (n + 1)))) == l.take (n + 1))
    · rfl
    · exfalso
      have e := beq_iff_eq.1 he
      have hlen : (l.take (n + 1)).length = n + 1 := by rw [List.length_take]; omega
      have hget : ∀ j (h : j < n + 1), (l.take (n + 1))[j]'(by omega) = l[j]'(by omega) := fun j h => List.getElem_take
      have hr2 := rdz_last n 0 (l.take (n + 1)) (by omega) (by omega) (fun j hj hjn => by rw [hget j (by omega)]; exact hl j (by omega) hjn) (by rw [hget n (by omega)]; exact hb) (by rw [hget n (by omega)]; intro h; exact h1 (by omega))
      rw [if_pos (by rw [hget n (by omega)]; exact hz)] at hr2
      have hlt : zval (l.take (n + 1)) < room 0 := by
        rw [room0]
        have hv := zval_take hn
        have h2 := zval_lt (l.take n)
        rw [List.length_take, Nat.min_eq_left (by omega)] at h2
        have h3 : 128 ^ n ≤ 128 ^ 9 := Nat.pow_le_pow_right (by omega) h9
        have h4 : l[n].toNat % 128 = 0 := by omega
        rw [h4] at hv
        have h5 : (128 : Nat) ^ 9 = 9223372036854775808 := by decide
        omega
      have hp := rdz_put 9 0 (zval (l.take (n + 1))) [] rfl (by omega) hlt (.inl rfl)
      unfold put at e
      rw [zig_zag] at e
      rw [List.append_nil, e, hr2] at hp
      cases hp
  · rw [if_neg hz] at hr
    obtain ⟨_, h2, _, _⟩ := rdz_back l 0 _ _ (by omega) hr
    refine .inl ⟨?_, by unfold num; rw [hr]⟩
    rw [beq_iff_eq]
    unfold put
    rw [zig_zag]
    exact h2.symm
theorem zval_64 {l : List UInt8} {n : Nat} (hn : n < l.length) (h9 : n ≤ 9) (h1 : n = 9 → l[n].toNat ≤ 1) : zval (l.take (n + 1)) < 18446744073709551616 := by
  have hv := zval_take hn
  have h2 := zval_lt (l.take n)
  rw [List.length_take, Nat.min_eq_left (by omega)] at h2
  by_cases h : n = 9
  · subst h
    have h5 : (128 : Nat) ^ 9 = 9223372036854775808 := by decide
    have h6 := h1 rfl
    have h7 : l[9].toNat % 128 = l[9].toNat := Nat.mod_eq_of_lt (by omega)
    rw [h7] at hv
    rw [h5] at h2 hv
    omega
  · have h3 : 128 ^ n ≤ 128 ^ 8 := Nat.pow_le_pow_right (by omega) (by omega)
    have h5 : (128 : Nat) ^ 8 = 72057594037927936 := by decide
    have h4 : 128 ^ n * (l[n].toNat % 128) ≤ 128 ^ 8 * 127 := Nat.mul_le_mul h3 (by omega)
    omega
/-- a step of the loop that puts the groups together -/
theorem zstep {l : List UInt8} {n i : Nat} (hn : n < l.length) (h9 : n ≤ 9) (h1 : n = 9 → l[n].toNat ≤ 1) (hi : i ≤ n) (x : Nat) (hx : x = (l[i]'(by omega)).toNat) :
    IntKind.u64.wrap (((zval (l.take i) : Nat) : Int) + IntKind.u64.wrap ((x : Int) % 128 * ((128 ^ i % 18446744073709551616 : Nat) : Int))) = ((zval (l.take (i + 1)) : Nat) : Int) := by
  have hv := zval_take (l := l) (k := i) (by omega)
  rw [← hx] at hv
  have h64 : zval (l.take (i + 1)) < 18446744073709551616 := zval_64 (by omega) (by omega) (by
    intro h
    have : i = n := by omega
    subst this
    exact h1 h)
  have h3 : 128 ^ i ≤ 128 ^ 9 := Nat.pow_le_pow_right (by omega) (by omega)
  have h5 : (128 : Nat) ^ 9 = 9223372036854775808 := by decide
  have e1 : 128 ^ i % 18446744073709551616 = 128 ^ i := Nat.mod_eq_of_lt (by omega)
  rw [e1]
  have e2 : (x : Int) % 128 * ((128 ^ i : Nat) : Int) = ((128 ^ i * (x % 128) : Nat) : Int) := by
    rw [Int.natCast_mul, Int.mul_comm]
    rfl
  rw [e2, IntKind.wrap_u64, IntKind.wrap_u64]
  generalize hq : 128 ^ i * (x % 128) = q at hv
  omega
theorem tstep (i : Nat) : IntKind.u64.wrap (((128 ^ i % 18446744073709551616 : Nat) : Int) * 128) = ((128 ^ (i + 1) % 18446744073709551616 : Nat) : Int) := by
  rw [IntKind.wrap_u64, Nat.pow_succ]
  generalize 128 ^ i = q
  omega
end Go.Proofs.YtlinpkmfjkcoiaaDoor
