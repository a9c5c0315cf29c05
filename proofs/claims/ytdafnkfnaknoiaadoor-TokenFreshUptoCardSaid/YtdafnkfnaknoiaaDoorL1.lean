/- Numbers as digits: plain facts. -/
import Derived.Test.YtdafnkfnaknoiaaDoorL0
namespace Go.Proofs.YtdafnkfnaknoiaaDoor
open Go Go.RowKit
set_option maxHeartbeats 1000000
set_option linter.unusedVariables false
set_option linter.unusedSimpArgs false
def valD (l : List UInt8) : Nat := l.foldl (fun a x => 10 * a + (x.toNat - 48)) 0
theorem valD_snoc (l : List UInt8) (x : UInt8) : valD (l ++ [x]) = 10 * valD l + (x.toNat - 48) := by simp [valD, List.foldl_append]
theorem val_dec : ∀ u : Nat, valD (Lib.decDigits u) = u := by
  intro u
  induction u using Nat.strongRecOn with
  | _ u ih =>
    by_cases h : u < 10
    · rw [Lib.decDigits_one h]
      show 10 * 0 + ((UInt8.ofNat (48 + u)).toNat - 48) = u
      rw [digit_nat u h]
      omega
    · rw [decDigits_step u h, valD_snoc, ih (u / 10) (by omega), digit_nat (u % 10) (by omega)]
      omega
theorem dgB_iff {c : UInt8} : dgB c = true ↔ 48 ≤ c.toNat ∧ c.toNat ≤ 57 := by
  unfold dgB dgt
  simp
  omega
theorem val_pos (c : UInt8) (hc : 49 ≤ c.toNat) : ∀ t : List UInt8, 1 ≤ valD (c :: t) := by
  have key : ∀ (t : List UInt8) (a : Nat), 1 ≤ a → 1 ≤ t.foldl (fun a x => 10 * a + (x.toNat - 48)) a := by
    intro t
    induction t with
    | nil => intro a h; exact h
    | cons x t ih => intro a h; exact ih _ (by show 1 ≤ 10 * a + _; omega)
  intro t
  exact key t _ (by show 1 ≤ 10 * 0 + (c.toNat - 48); omega)
/-- a number's one form: digits, the first one no needless nought -/
def Digits (d : List UInt8) : Prop := (∀ x ∈ d, dgB x = true) ∧ d ≠ [] ∧ (d.head? = some 48 → d.length = 1)
theorem dec_val : ∀ (n : Nat) (d : List UInt8), d.length = n → Digits d → Lib.decDigits (valD d) = d := by
  intro n
  induction n with
  | zero => intro d h hd; exact absurd (List.eq_nil_of_length_eq_zero h) hd.2.1
  | succ n ih =>
    intro d h hd
    obtain ⟨q, x, rfl⟩ : ∃ q x, d = q ++ [x] := ⟨d.dropLast, d.getLast hd.2.1, (List.dropLast_concat_getLast hd.2.1).symm⟩
    have hx := dgB_iff.1 (hd.1 x (by simp))
    rw [valD_snoc]
    by_cases hq : q = []
    · subst hq
      rw [show 10 * valD [] + (x.toNat - 48) = x.toNat - 48 by simp [valD], Lib.decDigits_one (by omega)]
      show [UInt8.ofNat (48 + (x.toNat - 48))] = [x]
      rw [show 48 + (x.toNat - 48) = x.toNat by omega]
      simp
    · have hdq : Digits q := by
        refine ⟨fun y hy => hd.1 y (by simp [hy]), hq, fun h0 => ?_⟩
        have h2 : (q ++ [x]).head? = some 48 := by
          cases q with
          | nil => exact absurd rfl hq
          | cons a q => simpa using h0
        have h1 := hd.2.2 h2
        rw [List.length_append, List.length_singleton] at h1
        have : 0 < q.length := List.length_pos_iff.2 hq
        omega
      have hpos : 1 ≤ valD q := by
        cases q with
        | nil => exact absurd rfl hq
        | cons a q =>
          have ha := dgB_iff.1 (hd.1 a (by simp))
          by_cases h48 : a = 48
          · subst h48
            have h1 := hd.2.2 rfl
            simp at h1
          · have : a.toNat ≠ 48 := fun e => h48 (UInt8.toNat_inj.1 e)
            exact val_pos a (by omega) q
      rw [decDigits_step _ (by omega), show (10 * valD q + (x.toNat - 48)) / 10 = valD q by omega, show (10 * valD q + (x.toNat - 48)) % 10 = x.toNat - 48 by omega, ih q (by simp at h; omega) hdq]
      congr 1
      rw [show 48 + (x.toNat - 48) = x.toNat by omega]
      simp
theorem itoa_dec (u : Nat) : Lib.itoa (u : Int) = Lib.decDigits u := Lib.itoa_nonneg u
theorem numB_itoa {v : Int} (h : I64 v) : numB (Lib.itoa v) = true := by
  unfold numB
  rw [parse_itoa v h]
  simp
/-- digits in one form are a number exactly if it isn't too large -/
theorem numB_digits {d : List UInt8} (hd : Digits d) : numB d = decide (valD d ≤ 9223372036854775807) := by
  have e := dec_val _ d rfl hd
  by_cases h : valD d ≤ 9223372036854775807
  · rw [decide_eq_true h, ← e, ← itoa_dec]
    exact numB_itoa (by unfold I64; omega)
  · rw [decide_eq_false h]
    cases hn : numB d
    · rfl
    · obtain ⟨v, hv, hvl, hs⟩ := show_of_numB hn
      rw [showT_1 hvl] at hs
      by_cases h0 : 0 ≤ v
      · obtain ⟨u, rfl⟩ : ∃ u : Nat, v = u := ⟨v.toNat, by omega⟩
        rw [itoa_dec] at hs
        have : valD d = u := by rw [hs, val_dec]
        unfold I64 at hv
        omega
      · obtain ⟨u, hu⟩ : ∃ u : Nat, v = -(u : Int) := ⟨(-v).toNat, by omega⟩
        rw [hu, Lib.itoa_neg u (by omega)] at hs
        have := hd.1 45 (by rw [hs]; simp)
        exact absurd this (by decide)
theorem dec_nought : ∀ (u : Nat) (t : List UInt8), Lib.decDigits u = 48 :: t → t = [] := by
  intro u
  induction u using Nat.strongRecOn with
  | _ u ih =>
    intro t h
    by_cases hu : u < 10
    · rw [Lib.decDigits_one hu] at h
      simp only [List.cons.injEq] at h
      exact h.2.symm
    · rw [decDigits_step u hu] at h
      cases hq : Lib.decDigits (u / 10) with
      | nil =>
        have := val_dec (u / 10)
        rw [hq] at this
        simp [valD] at this
        omega
      | cons a q =>
        rw [hq] at h
        simp only [List.cons_append, List.cons.injEq] at h
        have hq2 := hq
        rw [h.1] at hq2
        have h3 := ih (u / 10) (by omega) q hq2
        have := val_dec (u / 10)
        rw [hq2, h3] at this
        simp [valD] at this
        omega
/-- a needless nought ahead: no number -/
theorem numB_nought {t : List UInt8} (ht : t ≠ []) : numB (48 :: t) = false := by
  cases hn : numB (48 :: t)
  · rfl
  · obtain ⟨v, hv, hvl, hs⟩ := show_of_numB hn
    rw [showT_1 hvl] at hs
    by_cases h0 : 0 ≤ v
    · obtain ⟨u, rfl⟩ : ∃ u : Nat, v = u := ⟨v.toNat, by omega⟩
      rw [itoa_dec] at hs
      exact absurd (dec_nought u t hs.symm) ht
    · obtain ⟨u, hu⟩ : ∃ u : Nat, v = -(u : Int) := ⟨(-v).toNat, by omega⟩
      rw [hu, Lib.itoa_neg u (by omega)] at hs
      simp at hs
end Go.Proofs.YtdafnkfnaknoiaaDoor
