/- Numbers of digits: plain facts: the document's test of a number is the program's. One token at the head of a text, kind by kind: plain facts. Which tokens can be: plain facts: the document's own test is the program's. Which lists of tokens have a text, and which: plain facts. -/
import Derived.Test.YtdafnkfnaknoiaaDoorT9
import Derived.Test.YtdafnkfnaknoiaaDoorVG1
import Derived.Test.YtdafnkfnaknoiaaDoorG5
import Derived.Test.YtdafnkfnaknoiaaDoorS7
namespace Go.Proofs.YtdafnkfnaknoiaaDoor
open Go Go.RowKit
set_option maxHeartbeats 1000000
set_option linter.unusedVariables false
set_option linter.unusedSimpArgs false
/-- a digit -/
def dgU (c : UInt8) : Prop := 48 ≤ c.toNat ∧ c.toNat ≤ 57
/-- what digits are worth behind a number -/
def valA (a : Nat) (l : List UInt8) : Nat := l.foldl (fun a c => a * 10 + (c.toNat - 48)) a
theorem valA_nil (a : Nat) : valA a [] = a := by unfold valA; rw [List.foldl_nil]
theorem valA_cons (a : Nat) (c : UInt8) (t : List UInt8) : valA a (c :: t) = valA (a * 10 + (c.toNat - 48)) t := by unfold valA; rw [List.foldl_cons]
theorem valA_ge : ∀ (l : List UInt8) (a : Nat), a ≤ valA a l
  | [], a => Nat.le_refl _
  | c :: t, a => by
    have := valA_ge t (a * 10 + (c.toNat - 48))
    rw [valA_cons]
    omega
theorem parse_val (M : Nat) (hM : M = 18446744073709551615) (l : List UInt8) : ∀ (a : Nat), (∀ c ∈ l, dgU c) → a ≤ M → Lib.parseUintM M a l = if valA a l ≤ M then .ok (valA a l) else .range := by
  induction l with
  | nil =>
    intro a _ ha
    rw [valA_nil, if_pos ha, Lib.parseUintM]
  | cons c t ih =>
    intro a h ha
    have hc := h c (by simp)
    have hg := valA_ge t (a * 10 + (c.toNat - 48))
    rw [Lib.parseUintM, if_pos (show 48 ≤ c.toNat ∧ c.toNat ≤ 57 from hc), valA_cons]
    by_cases h1 : 1844674407370955162 ≤ a
    · rw [if_pos h1, if_neg (by omega)]
    · rw [if_neg h1]
      by_cases h2 : M < a * 10 + (c.toNat - 48)
      · rw [if_pos h2, if_neg (by omega)]
      · rw [if_neg h2]
        exact ih _ (fun x hx => h x (by simp [hx])) (by omega)
theorem decA_step (a : Nat) (c : UInt8) (ha : 0 < a) (hc : dgU c) : Lib.decDigits (a * 10 + (c.toNat - 48)) = Lib.decDigits a ++ [c] := by
  obtain ⟨h0, h1⟩ := hc
  rw [decDigits_step _ (by omega), show (a * 10 + (c.toNat - 48)) / 10 = a by omega, show 48 + (a * 10 + (c.toNat - 48)) % 10 = c.toNat by omega, UInt8.ofNat_toNat]
theorem decA_val : ∀ (l : List UInt8) (a : Nat), 0 < a → (∀ c ∈ l, dgU c) → Lib.decDigits (valA a l) = Lib.decDigits a ++ l
  | [], a, _, _ => by rw [valA_nil, List.append_nil]
  | c :: t, a, ha, h => by
    rw [valA_cons, decA_val t _ (by omega) (fun x hx => h x (by simp [hx])), decA_step a c ha (h c (by simp)), List.append_assoc]
    rfl
theorem decA_all {c : UInt8} {t : List UInt8} (h : ∀ x ∈ c :: t, dgU x) (hz : ¬ (t ≠ [] ∧ c = 48)) : Lib.decDigits (valA 0 (c :: t)) = c :: t := by
  obtain ⟨h0, h1⟩ := h c (by simp)
  have hd : Lib.decDigits (c.toNat - 48) = [c] := by
    rw [Lib.decDigits_one (by omega), show 48 + (c.toNat - 48) = c.toNat by omega, UInt8.ofNat_toNat]
  rw [valA_cons, show 0 * 10 + (c.toNat - 48) = c.toNat - 48 by omega]
  by_cases hc : c = 48
  · have ht : t = [] := by
      by_cases ht : t = []
      · exact ht
      · exact absurd ⟨ht, hc⟩ hz
    subst ht
    rw [valA_nil, hd]
  · have hc' : c.toNat ≠ 48 := fun e => hc (UInt8.toNat_inj.1 e)
    rw [decA_val t _ (by omega) (fun x hx => h x (by simp [hx])), hd]
    rfl
/-- a number's text has no needless 0 -/
theorem decA_lead : ∀ (u : Nat) (t : List UInt8), Lib.decDigits u = 48 :: t → t = [] := by
  intro u
  induction u using Nat.strongRecOn with
  | _ u ih =>
    intro t h
    by_cases hu : u < 10
    · rw [Lib.decDigits_one hu] at h
      injection h with _ h
      exact h.symm
    · rw [decDigits_step u hu] at h
      obtain ⟨c, r, e, _⟩ := dec_head (u / 10)
      rw [e, List.cons_append] at h
      injection h with hc hr
      subst hc
      have := ih (u / 10) (by omega) r e
      subst this
      by_cases hu2 : u / 10 < 10
      · rw [Lib.decDigits_one hu2] at e
        injection e with e _
        have := congrArg UInt8.toNat e
        rw [digit_nat _ hu2] at this
        simp at this
        omega
      · rw [decDigits_step _ hu2] at e
        obtain ⟨c', r', e', _⟩ := dec_head (u / 10 / 10)
        rw [e'] at e
        simp at e
theorem valA_bound : ∀ (l : List UInt8) (a : Nat), (∀ c ∈ l, dgU c) → a * 10 ^ l.length ≤ valA a l ∧ valA a l < (a + 1) * 10 ^ l.length
  | [], a, _ => by rw [valA_nil]; simp
  | c :: t, a, h => by
    obtain ⟨h0, h1⟩ := h c (by simp)
    obtain ⟨i0, i1⟩ := valA_bound t (a * 10 + (c.toNat - 48)) (fun x hx => h x (by simp [hx]))
    rw [valA_cons, List.length_cons, Nat.pow_succ]
    constructor
    · refine Nat.le_trans ?_ i0
      rw [show a * (10 ^ t.length * 10) = (a * 10) * 10 ^ t.length by rw [Nat.mul_comm (10 ^ t.length), ← Nat.mul_assoc]]
      exact Nat.mul_le_mul_right _ (by omega)
    · refine Nat.lt_of_lt_of_le i1 ?_
      rw [show (a + 1) * (10 ^ t.length * 10) = ((a + 1) * 10) * 10 ^ t.length by rw [Nat.mul_comm (10 ^ t.length), ← Nat.mul_assoc]]
      exact Nat.mul_le_mul_right _ (by omega)
/-- of as many digits the lesser text is the lesser number -/
theorem less_val : ∀ (l m : List UInt8) (a : Nat), l.length = m.length → (∀ c ∈ l, dgU c) → (∀ c ∈ m, dgU c) → (Op.bytesLess l m = true ↔ valA a l < valA a m)
  | [], [], a, _, _, _ => by simp [Op.bytesLess, valA_nil]
  | [], _ :: _, _, h, _, _ => by simp at h
  | _ :: _, [], _, h, _, _ => by simp at h
  | c :: t, d :: r, a, h, hl, hm => by
    obtain ⟨c0, c1⟩ := hl c (by simp)
    obtain ⟨d0, d1⟩ := hm d (by simp)
    have hlen : t.length = r.length := by simpa using h
    rw [Op.bytesLess, valA_cons, valA_cons]
    have ht : ∀ x ∈ t, dgU x := fun x hx => hl x (by simp [hx])
    have hr : ∀ x ∈ r, dgU x := fun x hx => hm x (by simp [hx])
    have b1 := valA_bound t (a * 10 + (c.toNat - 48)) ht
    have b2 := valA_bound r (a * 10 + (d.toNat - 48)) hr
    rw [hlen] at b1
    by_cases hcd : c = d
    · subst hcd
      have : (decide (c < c)) = false := by simp
      rw [this]
      simp only [Bool.false_or, beq_self_eq_true, Bool.true_and]
      exact less_val t r _ hlen ht hr
    · have hne : (c == d) = false := by simpa using hcd
      rw [hne, Bool.false_and, Bool.or_false, decide_eq_true_eq, UInt8.lt_iff_toNat_lt]
      have hne' : c.toNat ≠ d.toNat := fun e => hcd (UInt8.toNat_inj.1 e)
      constructor
      · intro hlt
        refine Nat.lt_of_lt_of_le b1.2 (Nat.le_trans ?_ b2.1)
        exact Nat.mul_le_mul_right _ (by omega)
      · intro hlt
        rcases Nat.lt_or_gt_of_ne hne' with h' | h'
        · exact h'
        · exfalso
          have : (a * 10 + (d.toNat - 48) + 1) * 10 ^ r.length ≤ (a * 10 + (c.toNat - 48)) * 10 ^ r.length := Nat.mul_le_mul_right _ (by omega)
          omega
theorem valA_inj : ∀ (l m : List UInt8) (a : Nat), l.length = m.length → (∀ c ∈ l, dgU c) → (∀ c ∈ m, dgU c) → valA a l = valA a m → l = m
  | [], [], a, _, _, _, _ => rfl
  | [], _ :: _, _, h, _, _, _ => by simp at h
  | _ :: _, [], _, h, _, _, _ => by simp at h
  | c :: t, d :: r, a, h, hl, hm, he => by
    obtain ⟨c0, c1⟩ := hl c (by simp)
    obtain ⟨d0, d1⟩ := hm d (by simp)
    have hlen : t.length = r.length := by simpa using h
    rw [valA_cons, valA_cons] at he
    have ht : ∀ x ∈ t, dgU x := fun x hx => hl x (by simp [hx])
    have hr : ∀ x ∈ r, dgU x := fun x hx => hm x (by simp [hx])
    have b1 := valA_bound t (a * 10 + (c.toNat - 48)) ht
    have b2 := valA_bound r (a * 10 + (d.toNat - 48)) hr
    rw [hlen] at b1
    have hcd : c.toNat = d.toNat := by
      rcases Nat.lt_trichotomy c.toNat d.toNat with h' | h' | h'
      · exfalso
        have : (a * 10 + (c.toNat - 48) + 1) * 10 ^ r.length ≤ (a * 10 + (d.toNat - 48)) * 10 ^ r.length := Nat.mul_le_mul_right _ (by omega)
        omega
      · exact h'
      · exfalso
        have : (a * 10 + (d.toNat - 48) + 1) * 10 ^ r.length ≤ (a * 10 + (c.toNat - 48)) * 10 ^ r.length := Nat.mul_le_mul_right _ (by omega)
        omega
    obtain rfl := UInt8.toNat_inj.1 hcd
    rw [valA_inj t r _ hlen ht hr he]
theorem most_dg : ∀ c ∈ mostL, dgU c := by unfold dgU; decide
theorem most_val : valA 0 mostL = 9223372036854775807 := by decide
theorem numB_val {c : UInt8} {t : List UInt8} (h : ∀ x ∈ c :: t, dgU x) (hz : ¬ (t ≠ [] ∧ c = 48)) : numB (c :: t) = decide (valA 0 (c :: t) ≤ 9223372036854775807) := by
  obtain ⟨h0, h1⟩ := h c (by simp)
  have hp := parse_val 18446744073709551615 rfl (c :: t) 0 h (by omega)
  have e64 : (2 : Nat) ^ 64 - 1 = 18446744073709551615 := by decide
  have hu : Lib.parseUintB 64 (c :: t) = if valA 0 (c :: t) ≤ 18446744073709551615 then .ok (valA 0 (c :: t)) else .range := by
    rw [Lib.parseUintB, if_neg (by simp), e64, hp]
  have hd := decA_all h hz
  unfold numB Lib.parseIntB
  simp only []
  rw [if_neg (by omega), hu]
  obtain ⟨v, hv⟩ : ∃ v, v = valA 0 (c :: t) := ⟨_, rfl⟩
  rw [← hv] at hd ⊢
  have n45 : ¬ c.toNat = 45 := by omega
  by_cases hM : v ≤ 18446744073709551615
  · rw [if_pos hM]
    simp only [n45, not_false_eq_true, true_and, false_and, if_false]
    by_cases h63 : 9223372036854775808 ≤ v
    · rw [if_pos (by simpa using h63), decide_eq_false (by omega)]
    · rw [if_neg (by simpa using h63), decide_eq_true (show v ≤ 9223372036854775807 by omega)]
      simp only [Lib.itoa_nonneg, hd, decide_true]
  · rw [if_neg hM, decide_eq_false (by omega)]
/-- the document's own test of a number is the program's -/
theorem small_num {l : List UInt8} (hl : l ≠ []) (h : ∀ x ∈ l, dgU x) : smallB l = numB l := by
  obtain ⟨c, t, rfl⟩ : ∃ c t, l = c :: t := by
    cases l with
    | nil => exact absurd rfl hl
    | cons c t => exact ⟨c, t, rfl⟩
  by_cases hz : t ≠ [] ∧ c = 48
  · obtain ⟨ht, rfl⟩ := hz
    have hlen : 1 < (48 :: t : List UInt8).length := by
      cases t with
      | nil => exact absurd rfl ht
      | cons a b => simp
    unfold smallB
    rw [if_pos ⟨hlen, rfl⟩]
    unfold numB
    split
    · rename_i v hv
      symm
      rw [decide_eq_false_iff_not]
      intro he
      have hv0 : ¬ v < 0 := by
        intro hneg
        unfold Lib.itoa at he
        rw [if_pos hneg] at he
        injection he with he _
        exact absurd he (by decide)
      unfold Lib.itoa at he
      rw [if_neg hv0] at he
      exact ht (decA_lead _ _ he)
    · rfl
  · rw [numB_val h hz]
    unfold smallB
    rw [if_neg (fun ⟨h1, h2⟩ => hz ⟨fun e => by rw [e] at h1; simp at h1, by simpa using h2⟩)]
    obtain ⟨h0, h1⟩ := h c (by simp)
    by_cases h19 : (c :: t).length = 19
    · rw [if_pos h19]
      have h1 := less_val (c :: t) mostL 0 (by rw [h19]; rfl) h most_dg
      have h2 := valA_inj (c :: t) mostL 0 (by rw [h19]; rfl) h most_dg
      rw [most_val] at h1 h2
      by_cases hv : valA 0 (c :: t) ≤ 9223372036854775807
      · rw [decide_eq_true hv]
        by_cases he : valA 0 (c :: t) = 9223372036854775807
        · rw [h2 he]; rfl
        · rw [h1.2 (by omega)]; rfl
      · rw [decide_eq_false hv]
        have a1 : Op.bytesLess (c :: t) mostL = false := by
          rw [← Bool.not_eq_true, h1]
          omega
        have a2 : ((c :: t) == mostL) = false := by
          rw [beq_eq_false_iff_ne]
          intro he
          rw [he, most_val] at hv
          omega
        rw [a1, a2]; rfl
    · rw [if_neg h19]
      have hb := valA_bound (c :: t) 0 h
      by_cases hlt : (c :: t).length < 19
      · have : 10 ^ (c :: t).length ≤ 10 ^ 18 := Nat.pow_le_pow_right (by omega) (by omega)
        rw [decide_eq_true hlt, decide_eq_true (by omega)]
      · have ht : t ≠ [] := fun e => by rw [e] at hlt; simp at hlt
        have hc : c ≠ 48 := fun e => hz ⟨ht, e⟩
        have hc' : c.toNat ≠ 48 := fun e => hc (UInt8.toNat_inj.1 e)
        have hb2 := valA_bound t (0 * 10 + (c.toNat - 48)) (fun x hx => h x (by simp [hx]))
        have : 10 ^ 19 ≤ 10 ^ t.length := Nat.pow_le_pow_right (by omega) (by simp only [List.length_cons] at h19 hlt; omega)
        have h3 : 1 * 10 ^ t.length ≤ (0 * 10 + (c.toNat - 48)) * 10 ^ t.length := Nat.mul_le_mul_right _ (by omega)
        rw [decide_eq_false hlt, decide_eq_false (by rw [valA_cons]; omega)]
end Go.Proofs.YtdafnkfnaknoiaaDoor
namespace Go.Proofs.YtdafnkfnaknoiaaDoor
open Go Go.RowKit
set_option maxHeartbeats 1000000
set_option linter.unusedVariables false
set_option linter.unusedSimpArgs false
/-- the first of these with which the text begins: how long it is -/
def firstSg : List (List UInt8) → List UInt8 → Nat
  | [], _ => 0
  | x :: r, l => if x.isPrefixOf l then x.length else firstSg r l
theorem firstSg_sign (l : List UInt8) : firstSg sgL l = signL l := by
  rcases l with _ | ⟨c, t⟩
  · rfl
  · by_cases h46 : c = 46
    · subst h46
      rcases t with _ | ⟨d, r⟩
      · rfl
      · by_cases hd : d = 46
        · subst hd; simp [firstSg, sgL, signL]
        · have : ¬ 46 = d := fun e => hd e.symm
          simp [firstSg, sgL, signL, hd, this]
    · by_cases h3 : c = 33 ∨ c = 60 ∨ c = 62
      · rcases h3 with h | h | h <;> subst h <;> (rcases t with _ | ⟨d, r⟩
          <;> first
            | rfl
            | (by_cases hd : d = 61
               · subst hd; simp [firstSg, sgL, signL]
               · have : ¬ 61 = d := fun e => hd e.symm
                 simp [firstSg, sgL, signL, hd, this]))
      · by_cases h1 : c = 40 ∨ c = 41 ∨ c = 91 ∨ c = 93 ∨ c = 123 ∨ c = 125 ∨ c = 44 ∨ c = 43 ∨ c = 45 ∨ c = 42 ∨ c = 61
        · rcases h1 with h | h | h | h | h | h | h | h | h | h | h <;> subst h <;> simp [firstSg, sgL, signL]
        · have e : signL (c :: t) = 0 := by
            unfold signL
            simp only []
            rw [if_neg h46, if_neg h3, if_neg h1]
          rw [e]
          simp only [not_or] at h3 h1
          obtain ⟨a1, a2, a3⟩ := h3
          obtain ⟨b1, b2, b3, b4, b5, b6, b7, b8, b9, b10, b11⟩ := h1
          have hne : ∀ (x : UInt8), ¬ c = x → ¬ x = c := fun x h e => h e.symm
          simp [firstSg, sgL, hne _ h46, hne _ a1, hne _ a2, hne _ a3, hne _ b1, hne _ b2, hne _ b3, hne _ b4, hne _ b5, hne _ b6, hne _ b7, hne _ b8, hne _ b9, hne _ b10, hne _ b11]
theorem dec_digits (u : Nat) : ∀ x ∈ Lib.decDigits u, dgU x := by
  induction u using Nat.strongRecOn with
  | _ u ih =>
    by_cases h : u < 10
    · rw [Lib.decDigits_one h]
      intro x hx
      rw [List.mem_singleton] at hx
      subst hx
      unfold dgU
      rw [digit_nat u h]
      omega
    · rw [decDigits_step u h]
      intro x hx
      rw [List.mem_append, List.mem_singleton] at hx
      rcases hx with hx | hx
      · exact ih (u / 10) (by omega) x hx
      · subst hx
        unfold dgU
        rw [digit_nat _ (by omega)]
        omega
theorem numB_dgs {c : UInt8} {t : List UInt8} (hc : dgU c) (h : numB (c :: t) = true) : ∀ x ∈ c :: t, dgU x := by
  unfold numB at h
  split at h
  · rename_i v hv
    have he := of_decide_eq_true h
    unfold Lib.itoa at he
    split at he
    · injection he with he _
      subst he
      have := hc.1
      simp at this
    · rw [← he]
      exact dec_digits _
  · cases h
theorem dgt_iff (c : UInt8) : dgt (c.toNat : Int) = true ↔ dgU c := by
  unfold dgt dgU
  rw [Bool.and_eq_true, decide_eq_true_eq, decide_eq_true_eq]
  omega
theorem rl_cons_yes {c : UInt8} {t : List UInt8} (h : dgt (c.toNat : Int) = true) : rl false (c :: t) = 1 + rl false t := by
  unfold rl
  rw [List.takeWhile_cons_of_pos (by unfold goes; rw [h]; rfl), List.length_cons]
  omega
theorem rl_cons_no {c : UInt8} {t : List UInt8} (h : dgt (c.toNat : Int) = false) : rl false (c :: t) = 0 := by
  unfold rl
  rw [List.takeWhile_cons_of_neg (by unfold goes; rw [h]; simp)]
  rfl
theorem rlt_cons_yes {c : UInt8} {t : List UInt8} (h : goes true c = true) : rl true (c :: t) = 1 + rl true t := by
  unfold rl
  rw [List.takeWhile_cons_of_pos h, List.length_cons]
  omega
theorem rlt_cons_no {c : UInt8} {t : List UInt8} (h : goes true c = false) : rl true (c :: t) = 0 := by
  unfold rl
  rw [List.takeWhile_cons_of_neg (by simp [h])]
  rfl
theorem rl_dig : ∀ (l : List UInt8), ∀ x ∈ l.take (rl false l), dgU x
  | [], x, h => by simp at h
  | c :: t, x, h => by
    cases hd : dgt (c.toNat : Int)
    · rw [rl_cons_no hd] at h
      simp at h
    · rw [rl_cons_yes hd, Nat.add_comm, List.take_succ_cons] at h
      rcases List.mem_cons.1 h with rfl | h
      · exact (dgt_iff _).1 hd
      · exact rl_dig t x h
theorem rl_same : ∀ (l : List UInt8), (∀ x, (l.drop (rl false l)).head? = some x → ltu (x.toNat : Int) = false) → rl true l = rl false l
  | [], _ => rfl
  | c :: t, h => by
    cases hd : dgt (c.toNat : Int)
    · rw [rl_cons_no hd] at h ⊢
      have := h c rfl
      exact rlt_cons_no (by unfold goes; rw [hd, this]; rfl)
    · rw [rl_cons_yes hd, rlt_cons_yes (by unfold goes; rw [hd]; rfl)]
      rw [rl_same t (fun x hx => h x (by rw [rl_cons_yes hd, Nat.add_comm, List.drop_succ_cons]; exact hx))]
theorem rl_more : ∀ (l : List UInt8) (x : UInt8), (l.drop (rl false l)).head? = some x → ltu (x.toNat : Int) = true → ¬ ∀ y ∈ l.take (rl true l), dgU y
  | [], x, h, _, _ => by simp at h
  | c :: t, x, h, hx, ha => by
    cases hd : dgt (c.toNat : Int)
    · rw [rl_cons_no hd] at h
      obtain rfl : c = x := by simpa using h
      rw [rlt_cons_yes (by unfold goes; rw [hx]; simp), Nat.add_comm, List.take_succ_cons] at ha
      have := (dgt_iff c).2 (ha c (by simp))
      rw [hd] at this
      cases this
    · rw [rl_cons_yes hd, Nat.add_comm, List.drop_succ_cons] at h
      rw [rlt_cons_yes (by unfold goes; rw [hd]; rfl), Nat.add_comm, List.take_succ_cons] at ha
      exact rl_more t x h hx (fun y hy => ha y (by simp [hy]))
theorem digit_facts {c : UInt8} (h : dgB c = true) : blankB c = false ∧ c ≠ 45 ∧ c ≠ 34 := by
  have hd := (dgt_iff c).1 h
  obtain ⟨h0, h1⟩ := hd
  refine ⟨?_, fun e => by subst e; simp at h0, fun e => by subst e; simp at h0⟩
  unfold blankB
  simp only [Bool.or_eq_false_iff, beq_eq_false_iff_ne, ne_eq]
  refine ⟨⟨⟨?_, ?_⟩, ?_⟩, ?_⟩ <;> (intro e; subst e; simp at h0)
theorem letter_facts {c : UInt8} (h : ltu (c.toNat : Int) = true) : blankB c = false ∧ c ≠ 45 ∧ c ≠ 34 ∧ dgB c = false := by
  have hl : 65 ≤ c.toNat := by
    unfold ltu ltr at h
    simp only [Bool.or_eq_true, Bool.and_eq_true, decide_eq_true_eq, beq_iff_eq] at h
    omega
  refine ⟨?_, fun e => by subst e; simp at hl, fun e => by subst e; simp at hl, ?_⟩
  · unfold blankB
    simp only [Bool.or_eq_false_iff, beq_eq_false_iff_ne, ne_eq]
    refine ⟨⟨⟨?_, ?_⟩, ?_⟩, ?_⟩ <;> (intro e; subst e; simp at hl)
  · unfold dgB dgt
    rw [show decide ((c.toNat : Int) ≤ 57) = false by rw [decide_eq_false_iff_not]; omega, Bool.and_false]
theorem step_wordR {c : UInt8} (t : List UInt8) (p : Nat) (h : ltu (c.toNat : Int) = true) : stepL (c :: t) p = if 32 < rl true (c :: t) then .bad 51 p else .tok 1 ((c :: t).take (rl true (c :: t))) (rl true (c :: t)) := by
  obtain ⟨h1, h2, h3, h4⟩ := letter_facts h
  have hw : 0 < wl (c :: t) := by
    rw [← rl_true, rlt_cons_yes (by unfold goes; rw [h]; simp)]
    omega
  unfold stepL
  simp only []
  rw [if_neg (by rw [h1]; decide), if_neg (fun e => h2 e.1), if_neg h3, if_neg (by rw [h4]; decide), if_pos hw, rl_true]
theorem step_numR {c : UInt8} (t : List UInt8) (p : Nat) (h : dgB c = true) (S : Bool) (hS : smallB ((c :: t).take (rl false (c :: t))) = S) (L : Bool)
    (hL : match ((c :: t).drop (rl false (c :: t))).head? with | none => L = false | some x => L = ltu (x.toNat : Int)) :
    stepL (c :: t) p = if S = true ∧ L = false then .tok 2 ((c :: t).take (rl false (c :: t))) (rl false (c :: t)) else .bad 51 p := by
  obtain ⟨h1, h2, h3⟩ := digit_facts h
  have hd := (dgt_iff c).1 h
  have e : stepL (c :: t) p = if numB ((c :: t).take (rl true (c :: t))) then .tok 2 ((c :: t).take (rl true (c :: t))) (rl true (c :: t)) else .bad 51 p := by
    unfold stepL
    simp only []
    rw [if_neg (by rw [h1]; decide), if_neg (fun e => h2 e.1), if_neg h3, if_pos h, rl_true]
  rw [e]
  cases L
  · have hw : rl true (c :: t) = rl false (c :: t) := rl_same _ (fun x hx => by rw [hx] at hL; exact hL.symm)
    rw [hw, ← small_num (by rw [rl_cons_yes h, Nat.add_comm, List.take_succ_cons]; simp) (rl_dig _), hS]
    cases S <;> simp
  · rw [if_neg (show ¬ (S = true ∧ true = false) from fun h => by cases h.2)]
    rw [if_neg]
    intro hn
    have hx : ∃ x, ((c :: t).drop (rl false (c :: t))).head? = some x ∧ ltu (x.toNat : Int) = true := by
      cases hh : ((c :: t).drop (rl false (c :: t))).head? with
      | none => rw [hh] at hL; cases hL
      | some x => rw [hh] at hL; exact ⟨x, rfl, hL.symm⟩
    obtain ⟨x, hx1, hx2⟩ := hx
    refine rl_more _ x hx1 hx2 ?_
    rw [rlt_cons_yes (by unfold goes; rw [show dgt (c.toNat : Int) = true from h]; rfl), Nat.add_comm, List.take_succ_cons] at hn ⊢
    exact numB_dgs hd hn
theorem step_signR {c : UInt8} (t : List UInt8) (p : Nat) (hb : blankB c = false) (hc : ¬ (c = 45 ∧ t.head? = some 45)) (h34 : c ≠ 34) (hd : dgB c = false) (hl : ltu (c.toNat : Int) = false) : stepL (c :: t) p = if signL (c :: t) = 0 then .bad 50 p else .tok 4 ((c :: t).take (signL (c :: t))) (signL (c :: t)) := by
  have hw : ¬ 0 < wl (c :: t) := by
    rw [← rl_true, rlt_cons_no (by unfold goes; rw [show dgt (c.toNat : Int) = false from hd, hl]; rfl)]
    omega
  unfold stepL
  simp only []
  rw [if_neg (by rw [hb]; decide), if_neg hc, if_neg h34, if_neg (by rw [hd]; decide), if_neg hw]
end Go.Proofs.YtdafnkfnaknoiaaDoor
namespace Go.Proofs.YtdafnkfnaknoiaaDoor
open Go Go.RowKit
set_option maxHeartbeats 1000000
set_option linter.unusedVariables false
set_option linter.unusedSimpArgs false
def headLt : List UInt8 → Bool
  | [] => false
  | c :: _ => ltu (c.toNat : Int)
/-- the document's own test: can the token be? -/
def canB (k : Int) (s : List UInt8) (last : Bool) : Bool :=
  if k = 1 then decide (0 < s.length) && (decide (s.length ≤ 32) && (headLt s && decide (rl true s = s.length)))
  else if k = 2 then decide (0 < s.length) && (decide (rl false s = s.length) && smallB s)
  else if k = 3 then decide (s.length ≤ 256)
  else if k = 4 then inL sgL s
  else if k = 5 then decide (s.length = 0) && last
  else false
theorem may_iff (k : Int) (s : ByteArray) : mayB k s = true ↔ ∃ r, scanL (spellL k s.data.toList) = .ok ((k, s.data.toList, 0) :: r) := by
  unfold mayB
  constructor
  · intro h
    split at h
    · rename_i t r heq
      refine ⟨r, ?_⟩
      rw [heq]
      obtain ⟨a, b, c⟩ := t
      unfold teq at h
      simp only [Bool.and_eq_true, beq_iff_eq] at h
      obtain ⟨rfl, hs, hc⟩ := h
      rw [ByteArray.toList_eq, ByteArray.toList_eq] at hs
      have : c = 0 := by omega
      subst this
      rw [show b = s.data.toList by simpa using hs]
    · cases h
  · rintro ⟨r, h⟩
    rw [h]
    simp only
    rw [show (⟨s.data.toList.toArray⟩ : ByteArray) = s from bytes_ext' (by simp)]
    exact teq_self _ _ _
theorem scanT_pre : ∀ (k p : Nat) (R : List Tk) (l : List UInt8) (M : List Tk), l.length ≤ k → scanT p R l = .ok M → ∃ N, M = R ++ N
  | k, p, R, l, M, hk, h => by
    rw [scanT_eq] at h
    rcases hs : stepL l p with _ | n | ⟨tk, s, n⟩ | ⟨E', q'⟩
    · rw [hs] at h
      simp only [Sc.ok.injEq] at h
      exact ⟨_, h.symm⟩
    · rw [hs] at h
      have hn := stepL_skip hs
      match k, hk with
      | 0, hk => omega
      | k + 1, hk => exact scanT_pre k _ _ _ M (by rw [List.length_drop]; omega) h
    · rw [hs] at h
      have hn := stepL_tok hs
      match k, hk with
      | 0, hk => omega
      | k + 1, hk =>
        obtain ⟨N, rfl⟩ := scanT_pre k _ _ _ M (by rw [List.length_drop]; omega) h
        exact ⟨_, List.append_assoc _ _ _⟩
    · rw [hs] at h
      cases h
theorem scanT_from : ∀ (k p : Nat) (l : List UInt8) (t : Tk) (r : List Tk), l.length ≤ k → scanT p [] l = .ok (t :: r) → p ≤ t.2.2
  | k, p, l, t, r, hk, h => by
    rw [scanT_eq] at h
    rcases hs : stepL l p with _ | n | ⟨tk, s, n⟩ | ⟨E', q'⟩
    · rw [hs] at h
      simp only [Sc.ok.injEq, List.nil_append, List.cons.injEq] at h
      obtain ⟨rfl, _⟩ := h
      exact Nat.le_refl _
    · rw [hs] at h
      have hn := stepL_skip hs
      match k, hk with
      | 0, hk => omega
      | k + 1, hk =>
        have := scanT_from k _ _ t r (by rw [List.length_drop]; omega) h
        omega
    · rw [hs] at h
      obtain ⟨N, hN⟩ := scanT_pre _ _ _ _ _ (Nat.le_refl _) h
      simp only [List.nil_append, List.cons_append, List.cons.injEq] at hN
      obtain ⟨rfl, _⟩ := hN
      exact Nat.le_refl _
    · rw [hs] at h
      cases h
theorem head_tok {k : Int} {l : List UInt8} {r : List Tk} (h : scanL l = .ok ((k, l, 0) :: r)) : (k = 5 ∧ l = []) ∨ ∃ n, stepL l 0 = .tok k l n := by
  unfold scanL at h
  split at h
  · cases h
  · rw [scanT_eq] at h
    rcases hs : stepL l 0 with _ | n | ⟨tk, s, n⟩ | ⟨E', q'⟩
    · rw [hs] at h
      simp only [Sc.ok.injEq, List.nil_append, List.cons.injEq, Prod.mk.injEq] at h
      exact .inl ⟨h.1.1.symm, h.1.2.1.symm⟩
    · rw [hs] at h
      have hn := stepL_skip hs
      have := scanT_from _ _ _ _ _ (Nat.le_refl _) h
      simp at this
      omega
    · rw [hs] at h
      obtain ⟨N, hN⟩ := scanT_pre _ _ _ _ _ (Nat.le_refl _) h
      simp only [List.nil_append, List.cons_append, List.cons.injEq, Prod.mk.injEq] at hN
      obtain ⟨⟨rfl, rfl, _⟩, _⟩ := hN
      exact .inr ⟨n, rfl⟩
    · rw [hs] at h
      cases h
theorem tok_head {k : Int} {l : List UInt8} (hl : l.length ≤ 4096) (h : stepL l 0 = .tok k l l.length) : ∃ r, scanL l = .ok ((k, l, 0) :: r) := by
  refine ⟨[(5, [], 0 + l.length)], ?_⟩
  rw [scanL_small hl, scanT_eq, h]
  simp only
  rw [List.drop_length, scan_nil]
  rfl
theorem take_all {l : List UInt8} {n : Nat} (hn : n ≤ l.length) (h : l.take n = l) : n = l.length := by
  have := congrArg List.length h
  rw [List.length_take] at this
  omega
theorem rl_le (b : Bool) (l : List UInt8) : rl b l ≤ l.length := by
  unfold rl
  exact (List.takeWhile_prefix _).length_le
theorem tok_class {c : UInt8} {t : List UInt8} {k : Int} {n : Nat} (h : stepL (c :: t) 0 = .tok k (c :: t) n) :
    (k = 1 ∧ ltu (c.toNat : Int) = true ∧ rl true (c :: t) = (c :: t).length ∧ (c :: t).length ≤ 32) ∨ (k = 2 ∧ rl false (c :: t) = (c :: t).length ∧ smallB (c :: t) = true) ∨ k = 3 ∨ (k = 4 ∧ signL (c :: t) = (c :: t).length) := by
  by_cases hl : ltu (c.toNat : Int) = true
  · rw [step_wordR t 0 hl] at h
    split at h
    · cases h
    · injection h with h1 h2 h3
      have := take_all (rl_le true _) h2
      exact .inl ⟨h1.symm, hl, this, by omega⟩
  by_cases hd : dgB c = true
  · obtain ⟨Lv, hL⟩ : ∃ Lv, match ((c :: t).drop (rl false (c :: t))).head? with | none => Lv = false | some x => Lv = ltu (x.toNat : Int) := by
      cases ((c :: t).drop (rl false (c :: t))).head? with
      | none => exact ⟨_, rfl⟩
      | some x => exact ⟨_, rfl⟩
    rw [step_numR t 0 hd _ rfl Lv hL] at h
    split at h
    · rename_i hc
      injection h with h1 h2 h3
      have := take_all (rl_le false _) h2
      rw [h2] at hc
      exact .inr (.inl ⟨h1.symm, this, hc.1⟩)
    · cases h
  by_cases h34 : c = 34
  · subst h34
    rw [step_str] at h
    split at h
    · cases h
    · injection h with h1 h2 h3
      exact .inr (.inr (.inl h1.symm))
  by_cases hb : blankB c = true
  · rw [show stepL (c :: t) 0 = .skip 1 by unfold stepL; simp only; rw [if_pos hb]] at h
    cases h
  by_cases hn : c = 45 ∧ t.head? = some 45
  · rw [show stepL (c :: t) 0 = .skip (noteL (c :: t)) by unfold stepL; simp only; rw [if_neg hb, if_pos hn]] at h
    cases h
  rw [step_signR t 0 (by simpa using hb) hn h34 (by simpa using hd) (by simpa using hl)] at h
  split at h
  · cases h
  · injection h with h1 h2 h3
    exact .inr (.inr (.inr ⟨h1.symm, take_all (signL_le _) h2⟩))
theorem firstSg_in : ∀ (L : List (List UInt8)) (l : List UInt8), l ≠ [] → firstSg L l = l.length → l ∈ L
  | [], l, hl, h => by
    rw [firstSg] at h
    exact absurd (List.length_eq_zero_iff.1 h.symm) hl
  | x :: r, l, hl, h => by
    rw [firstSg] at h
    split at h
    · rename_i hp
      have := (List.isPrefixOf_iff_prefix.1 hp).eq_of_length h
      rw [← this]
      simp
    · exact List.mem_cons_of_mem _ (firstSg_in r l hl h)
def sgOk : List UInt8 → Bool
  | [] => false
  | c :: t => !blankB c && !(c == 45 && t.head? == some 45) && c != 34 && !dgB c && !ltu (c.toNat : Int) && signL (c :: t) == (c :: t).length && decide ((c :: t).length ≤ 2)
theorem sg_ok : sgL.all sgOk = true := by decide
theorem inL_mem {L : List (List UInt8)} {s : List UInt8} : inL L s = true ↔ s ∈ L := by
  unfold inL
  rw [List.any_eq_true]
  constructor
  · rintro ⟨x, hx, h⟩
    rw [beq_iff_eq] at h
    exact h ▸ hx
  · intro h
    exact ⟨s, h, by simp⟩
theorem inL_step {s : List UInt8} (h : inL sgL s = true) : stepL s 0 = .tok 4 s s.length ∧ s.length ≤ 2 := by
  have := List.all_eq_true.1 sg_ok s (inL_mem.1 h)
  rcases s with _ | ⟨c, t⟩
  · cases this
  · unfold sgOk at this
    simp only [Bool.and_eq_true, Bool.not_eq_true', bne_iff_ne, ne_eq, beq_iff_eq, decide_eq_true_eq, Bool.and_eq_false_iff] at this
    obtain ⟨⟨⟨⟨⟨⟨h1, h2⟩, h3⟩, h4⟩, h5⟩, h6⟩, h7⟩ := this
    refine ⟨?_, h7⟩
    rw [step_signR t 0 h1 (fun ⟨a, b⟩ => by rcases h2 with h2 | h2 <;> simp [a, b] at h2) h3 h4 h5, h6, if_neg (by simp), List.take_length]
theorem scan_empty : scanL [] = .ok [(5, [], 0)] := by
  rw [scanL_small (by simp), scan_nil]
  rfl
theorem can_iff (k : Int) (l : List UInt8) (last : Bool) (h3 : k ≠ 3) (h5 : k ≠ 5) : canB k l last = true ↔ ∃ r, scanL l = .ok ((k, l, 0) :: r) := by
  constructor
  · intro h
    unfold canB at h
    by_cases k1 : k = 1
    · subst k1
      rw [if_pos rfl] at h
      simp only [Bool.and_eq_true, decide_eq_true_eq] at h
      obtain ⟨h0, h1, h2, h4⟩ := h
      rcases l with _ | ⟨c, t⟩
      · simp at h0
      · refine tok_head (by omega) ?_
        rw [step_wordR t 0 h2, if_neg (by omega), h4, List.take_length]
    rw [if_neg k1] at h
    by_cases k2 : k = 2
    · subst k2
      rw [if_pos rfl] at h
      simp only [Bool.and_eq_true, decide_eq_true_eq] at h
      obtain ⟨h0, h1, h2⟩ := h
      rcases l with _ | ⟨c, t⟩
      · simp at h0
      · have hd : dgB c = true := by
          cases hd : dgB c
          · rw [rl_cons_no hd] at h1
            simp at h1
          · rfl
        have hlen : (c :: t).length ≤ 4096 := by
          unfold smallB at h2
          split at h2
          · cases h2
          · split at h2
            · omega
            · have := of_decide_eq_true h2
              omega
        refine tok_head hlen ?_
        rw [step_numR t 0 hd true (by rw [h1, List.take_length]; exact h2) false (by rw [h1, List.drop_length]; rfl), if_pos ⟨rfl, rfl⟩, h1, List.take_length]
    rw [if_neg k2, if_neg h3] at h
    by_cases k4 : k = 4
    · subst k4
      rw [if_pos rfl] at h
      have := inL_step h
      exact tok_head (by omega) this.1
    rw [if_neg k4, if_neg h5] at h
    cases h
  · rintro ⟨r, h⟩
    rcases head_tok h with ⟨h1, _⟩ | ⟨n, hs⟩
    · contradiction
    · rcases l with _ | ⟨c, t⟩
      · cases hs
      · rcases tok_class hs with ⟨rfl, h1, h2, h4⟩ | ⟨rfl, h1, h2⟩ | h1 | ⟨rfl, h1⟩
        · unfold canB
          rw [if_pos rfl]
          simp only [Bool.and_eq_true, decide_eq_true_eq]
          exact ⟨by simp, h4, h1, h2⟩
        · unfold canB
          rw [if_neg (by decide), if_pos rfl]
          simp only [Bool.and_eq_true, decide_eq_true_eq]
          exact ⟨by simp, h1, h2⟩
        · contradiction
        · unfold canB
          rw [if_neg (by decide), if_neg (by decide), if_neg (by decide), if_pos rfl]
          exact inL_mem.2 (firstSg_in _ _ (by simp) (by rw [firstSg_sign, h1]))
theorem may_str (s : ByteArray) : mayB 3 s = true ↔ s.data.toList.length ≤ 256 := by
  rw [may_iff]
  constructor
  · rintro ⟨r, h⟩
    unfold spellL at h
    rw [if_pos rfl] at h
    split at h
    · assumption
    · rw [scan_empty] at h
      simp at h
  · intro hl
    have e : spellL 3 s.data.toList = 34 :: (escLB s.data.toList ++ [34]) := by
      unfold spellL
      rw [if_pos rfl, if_pos hl, quoteL_eq]
    have ef : (s.data.toList.map fun b => (escB b, b)).flatMap (·.1) = escLB s.data.toList := by
      unfold escLB
      rw [List.flatMap_map]
    have em : (s.data.toList.map fun b => (escB b, b)).map (·.2) = s.data.toList := by simp [Function.comp_def]
    have hlen : (escLB s.data.toList).length ≤ 4 * s.data.toList.length := by
      have := escL_len s.data.toList
      rw [← bytesOf_escL]
      unfold bytesOf
      rw [List.length_map]
      exact this
    have := scan_str 0 [] (s.data.toList.map fun b => (escB b, b)) [] (fun x hx => by
      obtain ⟨b, _, rfl⟩ := List.mem_map.1 hx
      exact escB_writes b) (by rw [List.length_map]; omega)
    rw [ef, em, scan_nil] at this
    refine ⟨[(5, [], 0 + ((escLB s.data.toList).length + 2))], ?_⟩
    rw [e, scanL_small (by simp only [List.length_cons, List.length_append, List.length_nil]; omega), this]
    rfl
theorem may_end (s : ByteArray) : mayB 5 s = true ↔ s.data.toList.length = 0 := by
  rw [may_iff]
  have e : spellL 5 s.data.toList = s.data.toList := if_neg (by decide)
  rw [e]
  constructor
  · rintro ⟨r, h⟩
    rcases head_tok h with ⟨_, h1⟩ | ⟨n, hs⟩
    · rw [h1]; rfl
    · generalize s.data.toList = l at hs
      rcases l with _ | ⟨c, t⟩
      · rfl
      · rcases tok_class hs with ⟨h, _⟩ | ⟨h, _⟩ | h | ⟨h, _⟩ <;> cases h
  · intro h
    rw [List.length_eq_zero_iff.1 h]
    exact ⟨[], scan_empty⟩
/-- the document's own test is the program's -/
theorem can_may (k : Int) (s : ByteArray) (last : Bool) : canB k s.data.toList last = (mayB k s && (!(k == 5) || last)) := by
  by_cases h3 : k = 3
  · subst h3
    have : canB 3 s.data.toList last = decide (s.data.toList.length ≤ 256) := by
      unfold canB
      rw [if_neg (by decide), if_neg (by decide), if_pos rfl]
    rw [this, Bool.eq_iff_iff, decide_eq_true_eq, ← may_str]
    simp
  by_cases h5 : k = 5
  · subst h5
    have : canB 5 s.data.toList last = (decide (s.data.toList.length = 0) && last) := by
      unfold canB
      rw [if_neg (by decide), if_neg (by decide), if_neg (by decide), if_neg (by decide), if_pos rfl]
    rw [this, Bool.eq_iff_iff, Bool.and_eq_true, decide_eq_true_eq, ← may_end]
    simp
  · have e : spellL k s.data.toList = s.data.toList := if_neg h3
    have h1 := can_iff k s.data.toList last h3 h5
    have h2 := may_iff k s
    rw [e, ← h1] at h2
    rw [Bool.eq_iff_iff, ← h2]
    simp [h5]
end Go.Proofs.YtdafnkfnaknoiaaDoor
namespace Go.Proofs.YtdafnkfnaknoiaaDoor
open Go Go.RowKit
set_option maxHeartbeats 1000000
set_option linter.unusedVariables false
set_option linter.unusedSimpArgs false
/-- the token at j can be, and is no end but at the end -/
def OkAt (L : List Tok3) (j : Nat) (h : j < L.length) : Prop := mayB L[j].1 L[j].2.1 = true ∧ (L[j].1 = 5 → j + 1 = L.length)
/-- can all of them be? -/
def allMay : List Tok3 → Bool
  | [] => true
  | t :: r => mayB t.1 t.2.1 && ((!(t.1 == 5)) || r.isEmpty) && allMay r
theorem allMay_iff : ∀ L : List Tok3, allMay L = true ↔ ∀ j (h : j < L.length), OkAt L j h
  | [] => by simp [allMay]
  | t :: r => by
    rw [allMay, Bool.and_eq_true, Bool.and_eq_true, allMay_iff r]
    constructor
    · rintro ⟨⟨h1, h2⟩, h3⟩ j hj
      cases j with
      | zero =>
        refine ⟨h1, fun h5 => ?_⟩
        simp only [List.getElem_cons_zero] at h5
        rw [h5] at h2
        simp at h2
        rw [h2]
        rfl
      | succ j =>
        have := h3 j (by simpa using hj)
        refine ⟨by simpa using this.1, fun h5 => ?_⟩
        have := this.2 (by simpa using h5)
        simp only [List.length_cons]
        omega
    · intro h
      refine ⟨⟨(h 0 (by simp)).1, ?_⟩, fun j hj => ?_⟩
      · by_cases h5 : t.1 = 5
        · have := (h 0 (by simp)).2 (by simpa using h5)
          have : r = [] := by
            apply List.length_eq_zero_iff.1
            simp only [List.length_cons] at this
            omega
          simp [this]
        · simp [h5]
      · have := h (j + 1) (by simpa using hj)
        refine ⟨by simpa using this.1, fun h5 => ?_⟩
        have := this.2 (by simpa using h5)
        simp only [List.length_cons] at this
        omega
theorem allMay_false {L : List Tok3} (j : Nat) (h : j < L.length) (hn : ¬ OkAt L j h) : allMay L = false := by
  rw [← Bool.not_eq_true, allMay_iff]
  exact fun hh => hn (hh j h)
/-- the tokens ahead of the end -/
def noEnd (L : List Tok3) : List Tok3 := L.takeWhile (fun t => t.1 != 5)
theorem noEnd_take : ∀ (L : List Tok3) (k : Nat), k ≤ L.length → (∀ j (h : j < L.length), j < k → L[j].1 ≠ 5) → (noEnd L).take k = L.take k ∧ k ≤ (noEnd L).length
  | [], k, hk, _ => by
    simp at hk
    subst hk
    simp
  | t :: r, 0, _, _ => by simp
  | t :: r, k + 1, hk, h => by
    have h0 := h 0 (by simp) (by omega)
    simp only [List.getElem_cons_zero] at h0
    have e : noEnd (t :: r) = t :: noEnd r := by
      unfold noEnd
      rw [List.takeWhile_cons_of_pos (by simpa using h0)]
    have ih := noEnd_take r k (by simpa using hk) (fun j hj hjk => by
      have := h (j + 1) (by simpa using hj) (by omega)
      simpa using this)
    rw [e, List.take_succ_cons, List.take_succ_cons, ih.1]
    exact ⟨rfl, by simpa using ih.2⟩
theorem noEnd_stop : ∀ (L : List Tok3) (k : Nat) (hk : k < L.length), (∀ j (h : j < L.length), j < k → L[j].1 ≠ 5) → L[k].1 = 5 → noEnd L = L.take k
  | [], k, hk, _, _ => by simp at hk
  | t :: r, 0, _, _, h5 => by
    unfold noEnd
    rw [List.takeWhile_cons_of_neg (by simpa using h5)]
    rfl
  | t :: r, k + 1, hk, h, h5 => by
    have h0 := h 0 (by simp) (by omega)
    simp only [List.getElem_cons_zero] at h0
    have e : noEnd (t :: r) = t :: noEnd r := by
      unfold noEnd
      rw [List.takeWhile_cons_of_pos (by simpa using h0)]
    rw [e, List.take_succ_cons, noEnd_stop r k (by simpa using hk) (fun j hj hjk => by
      have := h (j + 1) (by simpa using hj) (by omega)
      simpa using this) (by simpa using h5)]
theorem noEnd_all (L : List Tok3) (h : ∀ j (h : j < L.length), L[j].1 ≠ 5) : noEnd L = L := by
  have h1 := noEnd_take L L.length (Nat.le_refl _) (fun j hj _ => h j hj)
  rw [List.take_length] at h1
  have h2 : (noEnd L).length ≤ L.length := (List.takeWhile_prefix _).length_le
  rw [List.take_of_length_le (by omega)] at h1
  exact h1.1
/-- the text of tokens, and the error -/
def speltT (L : List Tok3) : List UInt8 := if allMay L = true then (if 4096 < (outL ((noEnd L).map spl3)).length then [] else outL ((noEnd L).map spl3)) else []
def speltE (L : List Tok3) : Int := if allMay L = true then (if 4096 < (outL ((noEnd L).map spl3)).length then 2 else 0) else 1
theorem spelt_bad {L : List Tok3} (h : allMay L = false) : speltT L = [] ∧ speltE L = 1 := by
  unfold speltT speltE
  rw [h]
  exact ⟨rfl, rfl⟩
theorem spelt_long {L : List Tok3} (h : allMay L = true) (hl : 4096 < (outL ((noEnd L).map spl3)).length) : speltT L = [] ∧ speltE L = 2 := by
  unfold speltT speltE
  rw [if_pos h, if_pos h, if_pos hl, if_pos hl]
  exact ⟨rfl, rfl⟩
theorem spelt_ok {L : List Tok3} (h : allMay L = true) (hl : (outL ((noEnd L).map spl3)).length ≤ 4096) : speltT L = outL ((noEnd L).map spl3) ∧ speltE L = 0 := by
  unfold speltT speltE
  rw [if_pos h, if_pos h, if_neg (by omega), if_neg (by omega)]
  exact ⟨rfl, rfl⟩
theorem may_len {k : Int} {s : ByteArray} (h : mayB k s = true) : (spellL k s.data.toList).length ≤ 4096 := by
  obtain ⟨r, h⟩ := (may_iff k s).1 h
  unfold scanL at h
  split at h
  · cases h
  · omega
theorem outL_bound : ∀ (ls : List (List UInt8)), (∀ x ∈ ls, x.length ≤ 4096) → (outL ls).length ≤ 4097 * ls.length := by
  have hf : ∀ (ls : List (List UInt8)), (∀ x ∈ ls, x.length ≤ 4096) → (ls.flatMap (fun y => 32 :: y)).length ≤ 4097 * ls.length := by
    intro ls
    induction ls with
    | nil => simp
    | cons a r ih =>
      intro h
      have h1 := h a (by simp)
      have h2 := ih (fun x hx => h x (by simp [hx]))
      simp only [List.flatMap_cons, List.length_append, List.length_cons] at h2 ⊢
      omega
  intro ls h
  cases ls with
  | nil => simp [outL]
  | cons a r =>
    have h1 := h a (by simp)
    have h2 := hf r (fun x hx => h x (by simp [hx]))
    simp only [outL, List.length_append, List.length_cons] at h2 ⊢
    omega
end Go.Proofs.YtdafnkfnaknoiaaDoor
