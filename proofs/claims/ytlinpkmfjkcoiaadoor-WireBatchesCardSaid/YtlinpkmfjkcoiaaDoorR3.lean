/- Contract of the reader's number. -/
import Derived.Test.YtlinpkmfjkcoiaaDoorR2
namespace Go.Proofs.YtlinpkmfjkcoiaaDoor
open Go Go.RowKit
set_option maxHeartbeats 2000000
set_option linter.unusedVariables false
set_option linter.unusedSimpArgs false
def shlN (x : Int) (i : Nat) : Nat := (x.toNat * 128 ^ i) % 18446744073709551616
def orN (z : Nat) (x : Int) (i : Nat) : Nat := z ||| shlN x i
theorem shl_u64 (x : Int) (i : Nat) (yk : IntKind) (h0 : 0 ≤ x) (hi : i ≤ 9) : Op.shift .shl .u64 x yk ((i : Int) * 7) = pure (.int .u64 ((shlN x i : Nat) : Int)) := by
  rw [shift_shl .u64 yk x _ (by omega) (by show ((i : Int) * 7) ≤ 64; omega)]
  have e : ((i : Int) * 7).toNat = 7 * i := by omega
  rw [e, IntKind.wrap_u64]
  have h2 : (2 : Int) ^ (7 * i) = ((128 ^ i : Nat) : Int) := by
    rw [show (128 : Nat) = 2 ^ 7 from rfl, ← Nat.pow_mul]
    simp
  rw [h2]
  obtain ⟨n, rfl⟩ : ∃ n : Nat, x = n := ⟨x.toNat, by omega⟩
  unfold shlN
  rw [Int.toNat_natCast, ← Int.natCast_mul]
  congr 3
theorem shlN_lt (x : Int) (i : Nat) : shlN x i < 18446744073709551616 := Nat.mod_lt _ (by omega)
theorem or_u64 (z : Nat) (x : Int) (i : Nat) (hz : z < 18446744073709551616) : bits .or .u64 (z : Int) ((shlN x i : Nat) : Int) = ((orN z x i : Nat) : Int) := bits_or_u64_nat _ _ hz (shlN_lt x i)
theorem orN_lt {z : Nat} (hz : z < 18446744073709551616) (x : Int) (i : Nat) : orN z x i < 18446744073709551616 := Nat.or_lt_two_pow (n := 64) hz (shlN_lt x i)
theorem orN_add {z x i : Nat} (hz : z < 128 ^ i) (hx : x < 128) (hi : i ≤ 9) (h9 : i = 9 → x ≤ 1) : orN z (x : Int) i = z + 128 ^ i * x := by
  have hl : x * 128 ^ i < 18446744073709551616 := by
    by_cases h : i = 9
    · subst h
      have := h9 rfl
      have h3 : x * 128 ^ 9 ≤ 1 * 128 ^ 9 := Nat.mul_le_mul_right _ this
      exact Nat.lt_of_le_of_lt h3 (by decide)
    · have h1 : 128 ^ i ≤ 128 ^ 8 := Nat.pow_le_pow_right (by omega) (by omega)
      have h3 : x * 128 ^ i ≤ 127 * 128 ^ 8 := Nat.mul_le_mul (by omega) h1
      exact Nat.lt_of_le_of_lt h3 (by decide)
  have h2 : (128 : Nat) ^ i = 2 ^ (7 * i) := by
    rw [show (128 : Nat) = 2 ^ 7 from rfl, ← Nat.pow_mul]
  unfold orN shlN
  rw [Int.toNat_natCast, Nat.mod_eq_of_lt hl, h2, Nat.mul_comm x, Nat.or_comm, ← Nat.two_pow_add_eq_or_of_lt (by rw [← h2]; exact hz), Nat.add_comm]
theorem pow_succ128 (i : Nat) : 128 ^ (i + 1) = 128 ^ i * 128 := Nat.pow_succ ..
/-! ### The state of the loop -/
/-- i groups are read, they are z -/
inductive NumSt (l : List UInt8) (a : Nat) (f : Int) (i z a' : Nat) (f' : Int) : Prop
  | on (h0 : f = 0) (h1 : f' = 0) (h2 : i ≤ 9) (h3 : z < 128 ^ i) (h5 : a ≤ a') (h4 : ∀ r, rdz i (l.drop a') = r → rdz 0 (l.drop a) = match r with | .bad E => .bad E | .ok z' k => .ok (z + 128 ^ i * z') (a' - a + k))
  | off (h1 : f' ≠ 0) (h2 : (f ≠ 0 ∧ f' = f) ∨ (f = 0 ∧ rdz 0 (l.drop a) = .bad f'))
/-- the loop is left -/
def NumEnd (l : List UInt8) (a : Nat) (f : Int) (z a' : Nat) (f' : Int) : Prop := Came a a' f f' (rdz 0 (l.drop a)) (· = z)
theorem NumSt.start (l : List UInt8) (a : Nat) (f : Int) : NumSt l a f 0 0 a f := by
  by_cases hf : f = 0
  · subst hf
    refine .on rfl rfl (by omega) (by simp) (Nat.le_refl _) fun r hr => ?_
    rw [hr]
    cases r with
    | bad E => rfl
    | ok z k => simp
  · exact .off hf (.inl ⟨hf, rfl⟩)
theorem NumSt.left {l : List UInt8} {a : Nat} {f : Int} {i z a' : Nat} {f' : Int} (h : NumSt l a f i z a' f') (hi : i = 10) (z' : Nat) : NumEnd l a f z' a' f' := by
  cases h with
  | on h0 h1 h2 h3 h5 h4 => omega
  | off h1 h2 =>
    rcases h2 with h2 | ⟨h2, h3⟩
    · exact .inl h2
    · refine .inr ⟨h2, ?_⟩
      rw [h3]
      exact ⟨rfl, h1⟩
/-- a round: a byte x was asked for -/
theorem NumSt.bad {l : List UInt8} {a : Nat} {f : Int} {i z a' a2 : Nat} {f' f2 : Int} {x : UInt8} (h : NumSt l a f i z a' f') (hx : Came a' a2 f' f2 (oneR (l.drop a')) (· = x)) (hf : f2 ≠ 0) (z2 i2 a3 : Nat) : NumSt l a f i2 z2 a3 f2 := by
  cases h with
  | on h0 h1 h2 h3 h5 h4 =>
    subst h1
    rcases hx with ⟨h, _⟩ | ⟨_, hx⟩
    · exact absurd rfl h
    · cases hd : l.drop a' with
      | nil =>
        rw [hd] at hx
        simp only [oneR] at hx
        refine .off hf (.inr ⟨h0, ?_⟩)
        rw [h4 (.bad 30) (by rw [hd]; rfl), hx.1]
      | cons b t =>
        rw [hd] at hx
        simp only [oneR] at hx
        exact absurd hx.1 hf
  | off h1 h2 =>
    rcases hx with ⟨_, h⟩ | ⟨h, _⟩
    · rw [h]; exact .off h1 h2
    · exact absurd h h1
theorem NumSt.good {l : List UInt8} {a : Nat} {f : Int} {i z a' a2 : Nat} {f' f2 : Int} {x : UInt8} (h : NumSt l a f i z a' f') (hx : Came a' a2 f' f2 (oneR (l.drop a')) (· = x)) (hf : f2 = 0) :
    f = 0 ∧ i ≤ 9 ∧ z < 128 ^ i ∧ a ≤ a' ∧ a2 = a' + 1 ∧ ∃ t, l.drop a' = x :: t ∧ l.drop a2 = t ∧ (∀ r, rdz i (x :: t) = r → rdz 0 (l.drop a) = match r with | .bad E => .bad E | .ok z' k => .ok (z + 128 ^ i * z') (a' - a + k)) := by
  cases h with
  | on h0 h1 h2 h3 h5 h4 =>
    subst h1
    rcases hx with ⟨h, _⟩ | ⟨_, hx⟩
    · exact absurd rfl h
    · cases hd : l.drop a' with
      | nil =>
        rw [hd] at hx
        simp only [oneR] at hx
        exact absurd (hx.1.symm.trans hf) hx.2
      | cons b t =>
        rw [hd] at hx h4
        simp only [oneR] at hx
        obtain ⟨h6, h7, h8⟩ := hx
        subst h8
        refine ⟨h0, h2, h3, h5, h7, t, rfl, ?_, h4⟩
        rw [h7, ← List.drop_drop, hd]
        rfl
  | off h1 h2 =>
    rcases hx with ⟨_, h⟩ | ⟨h, _⟩
    · exact absurd (h.symm.trans hf) h1
    · exact absurd h h1
/-- a tenth byte that is too great -/
theorem NumSt.great {l : List UInt8} {a : Nat} {f : Int} {i z a' a2 : Nat} {f' f2 : Int} {x : UInt8} (h : NumSt l a f i z a' f') (hx : Came a' a2 f' f2 (oneR (l.drop a')) (· = x)) (hf : f2 = 0) (hi : i = 9) (h1 : 1 < x.toNat) (z2 i2 a3 : Nat) : NumSt l a f i2 z2 a3 31 := by
  obtain ⟨h0, _, _, _, _, t, _, _, h4⟩ := h.good hx hf
  refine .off (by decide) (.inr ⟨h0, ?_⟩)
  rw [h4 (.bad 31) (by simp only [rdz]; rw [if_pos ⟨hi, h1⟩])]
/-- a group that another one follows -/
theorem NumSt.more {l : List UInt8} {a : Nat} {f : Int} {i z a' a2 : Nat} {f' f2 : Int} {x : UInt8} (h : NumSt l a f i z a' f') (hx : Came a' a2 f' f2 (oneR (l.drop a')) (· = x)) (hf : f2 = 0) (hi : i < 9) (h1 : 128 ≤ x.toNat) : NumSt l a f (i + 1) (orN z ((x.toNat : Int) % 128) i) a2 f2 := by
  obtain ⟨h0, _, h3, h5, h7, t, _, h6, h4⟩ := h.good hx hf
  have e : ((x.toNat : Int) % 128) = ((x.toNat % 128 : Nat) : Int) := by omega
  have hx := x.toNat_lt
  rw [e, orN_add h3 (by omega) (by omega) (by omega)]
  have hp : 0 < 128 ^ i := Nat.pow_pos (by omega)
  refine .on h0 hf (by omega) ?_ (by omega) fun r hr => ?_
  · rw [pow_succ128]
    have h8 : 128 ^ i * (x.toNat % 128) ≤ 128 ^ i * 127 := Nat.mul_le_mul_left _ (by omega)
    omega
  · rw [h6] at hr
    rw [h4 _ rfl]
    simp only [rdz]
    rw [if_neg (by omega), if_neg (by omega), hr]
    cases r with
    | bad E => rfl
    | ok z' k =>
      simp only [Res.ok.injEq]
      refine ⟨?_, by omega⟩
      rw [pow_succ128, Nat.mul_add, Nat.mul_assoc]
      omega
/-- the last group -/
theorem NumSt.last {l : List UInt8} {a : Nat} {f : Int} {i z a' a2 : Nat} {f' f2 : Int} {x : UInt8} (h : NumSt l a f i z a' f') (hx : Came a' a2 f' f2 (oneR (l.drop a')) (· = x)) (hf : f2 = 0) (h9 : i = 9 → x.toNat ≤ 1) (h1 : x.toNat < 128) (hz : x.toNat ≠ 0 ∨ i = 0) : NumEnd l a f (orN z (x.toNat : Int) i) a2 0 := by
  obtain ⟨h0, hi, h3, h5, h7, t, _, h6, h4⟩ := h.good hx hf
  refine .inr ⟨h0, ?_⟩
  rw [h4 (.ok x.toNat 1) (by simp only [rdz]; rw [if_neg (by omega), if_pos h1, if_neg (by omega)]), orN_add h3 h1 hi h9]
  exact ⟨rfl, by omega, rfl⟩
/-- a last group that is 0 -/
theorem NumSt.zero {l : List UInt8} {a : Nat} {f : Int} {i z a' a2 : Nat} {f' f2 : Int} {x : UInt8} (h : NumSt l a f i z a' f') (hx : Came a' a2 f' f2 (oneR (l.drop a')) (· = x)) (hf : f2 = 0) (h1 : x.toNat = 0) (hz : i ≠ 0) (z2 a3 : Nat) : NumEnd l a f z2 a3 31 := by
  obtain ⟨h0, hi, h3, h5, h7, t, _, h6, h4⟩ := h.good hx hf
  refine .inr ⟨h0, ?_⟩
  rw [h4 (.bad 31) (by simp only [rdz]; rw [if_neg (by omega), if_pos (by omega), if_pos ⟨h1, hz⟩])]
  exact ⟨rfl, by decide⟩
theorem NumSt.over {l : List UInt8} {a : Nat} {f : Int} {i z a' : Nat} {f' : Int} (h : NumSt l a f i z a' f') (hf : f' ≠ 0) (z2 a3 : Nat) : NumEnd l a f z2 a3 f' := by
  cases h with
  | on h0 h1 h2 h3 h5 h4 => exact absurd h1 hf
  | off h1 h2 =>
    rcases h2 with h2 | ⟨h2, h3⟩
    · exact .inl h2
    · refine .inr ⟨h2, ?_⟩
      rw [h3]
      exact ⟨rfl, h1⟩
end Go.Proofs.YtlinpkmfjkcoiaaDoor
