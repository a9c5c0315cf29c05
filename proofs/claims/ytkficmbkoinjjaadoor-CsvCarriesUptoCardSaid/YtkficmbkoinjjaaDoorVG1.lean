/- The texts of values: plain facts: a number's text is parsed as it; the first byte tells the kind; one text, one value. -/
import Derived.Test.YtkficmbkoinjjaaDoorVU1
import Derived.Test.YtkficmbkoinjjaaDoorVS1
import Derived.Lib.ItoaLen
import Derived.Lib.ItoaMem
namespace Go.Proofs.YtkficmbkoinjjaaDoor.V
open Go Go.RowKit
set_option linter.unusedVariables false
set_option linter.unusedSimpArgs false
theorem decDigits_step (u : Nat) (h : ¬ u < 10) : Lib.decDigits u = Lib.decDigits (u / 10) ++ [UInt8.ofNat (48 + u % 10)] := by
  rw [Lib.decDigits, dif_neg h]
theorem digit_nat (d : Nat) (h : d < 10) : (UInt8.ofNat (48 + d)).toNat = 48 + d := by
  rw [UInt8.toNat_ofNat']
  omega
theorem parseM_dec (M : Nat) (hM : M ≤ 18446744073709551615) : ∀ (u : Nat) (r : List UInt8), u ≤ M → Lib.parseUintM M 0 (Lib.decDigits u ++ r) = Lib.parseUintM M u r := by
  intro u
  induction u using Nat.strongRecOn with
  | _ u ih =>
    intro r hu
    by_cases h : u < 10
    · rw [Lib.decDigits_one h]
      show Lib.parseUintM M 0 (UInt8.ofNat (48 + u) :: r) = _
      rw [Lib.parseUintM, digit_nat u h, if_pos (by omega), if_neg (by omega), if_neg (by omega)]
      congr 1
      omega
    · rw [decDigits_step u h, List.append_assoc, ih (u / 10) (by omega) _ (by omega)]
      show Lib.parseUintM M (u / 10) (UInt8.ofNat (48 + u % 10) :: r) = _
      rw [Lib.parseUintM, digit_nat (u % 10) (by omega), if_pos (by omega), if_neg (by omega), if_neg (by omega)]
      congr 1
      omega
theorem dec_ne (u : Nat) : Lib.decDigits u ≠ [] := by
  by_cases h : u < 10
  · rw [Lib.decDigits_one h]; simp
  · rw [decDigits_step u h]; simp
theorem dec_head (u : Nat) : ∃ c r, Lib.decDigits u = c :: r ∧ 48 ≤ c.toNat ∧ c.toNat ≤ 57 := by
  induction u using Nat.strongRecOn with
  | _ u ih =>
    by_cases h : u < 10
    · exact ⟨_, [], Lib.decDigits_one h, by rw [digit_nat u h]; omega, by rw [digit_nat u h]; omega⟩
    · obtain ⟨c, r, e, h1, h2⟩ := ih (u / 10) (by omega)
      exact ⟨c, r ++ [UInt8.ofNat (48 + u % 10)], by rw [decDigits_step u h, e]; rfl, h1, h2⟩
theorem parseB_dec (u : Nat) (h : u ≤ 18446744073709551615) : Lib.parseUintB 64 (Lib.decDigits u) = .ok u := by
  unfold Lib.parseUintB
  rw [if_neg (dec_ne u)]
  have := parseM_dec (2 ^ 64 - 1) (by decide) u [] (by omega)
  rw [List.append_nil] at this
  rw [this]
  rfl
theorem itoa_head (n : Int) : ∃ c r, Lib.itoa n = c :: r ∧ (c.toNat = 45 ∨ (48 ≤ c.toNat ∧ c.toNat ≤ 57)) := by
  unfold Lib.itoa
  split
  · exact ⟨45, _, rfl, .inl rfl⟩
  · obtain ⟨c, r, e, h⟩ := dec_head n.toNat
    exact ⟨c, r, e, .inr h⟩
theorem parse_itoa (n : Int) (h : I64 n) : Lib.parseIntB 64 (Lib.itoa n) = .ok n := by
  obtain ⟨h0, h1⟩ := h
  by_cases hn : n < 0
  · obtain ⟨u, hu⟩ : ∃ u : Nat, n = -(u : Int) := ⟨n.natAbs, by omega⟩
    subst hu
    rw [Lib.itoa_neg u (by omega)]
    unfold Lib.parseIntB
    simp only [show (45 : UInt8).toNat = 45 from rfl, or_true, if_true]
    rw [parseB_dec u (by omega)]
    simp only [not_true, false_and, if_false, true_and, if_true]
    rw [if_neg (by omega)]
  · obtain ⟨u, hu⟩ : ∃ u : Nat, n = (u : Int) := ⟨n.toNat, by omega⟩
    subst hu
    rw [Lib.itoa_nonneg u]
    obtain ⟨c, r, e, hc0, hc1⟩ := dec_head u
    have hp := parseB_dec u (by omega)
    rw [e] at hp ⊢
    unfold Lib.parseIntB
    simp only []
    rw [if_neg (by omega), hp]
    simp only []
    have hne : ¬ c.toNat = 45 := by omega
    simp only [hne, not_false_eq_true, true_and, false_and, if_false]
    rw [if_neg (by omega)]
theorem bytes_ext {a b : ByteArray} (h : a.data.toList = b.data.toList) : a = b := by
  cases a with | mk x => cases b with | mk y => exact congrArg ByteArray.mk (Array.toList_inj.1 h)
theorem veq_true {k n : Int} {s : ByteArray} {b : Bool} {k' n' : Int} {s' : ByteArray} {b' : Bool} (h : veq k n s b k' n' s' b' = true) : k = k' ∧ n = n' ∧ s = s' ∧ b = b' := by
  unfold veq at h
  simp only [Bool.and_eq_true, beq_iff_eq] at h
  exact ⟨h.1, h.2.1, bytes_ext (by rw [← ByteArray.toList_eq, ← ByteArray.toList_eq]; exact h.2.2.1), h.2.2.2⟩
theorem veq_self (k n : Int) (s : ByteArray) (b : Bool) : veq k n s b k n s b = true := by
  unfold veq
  simp
theorem valid_1' {n : Int} {s : ByteArray} {b : Bool} (h : valid 1 n s b = true) : s = ⟨#[]⟩ ∧ b = false := by
  unfold valid at h
  rw [if_pos rfl] at h
  have := veq_true h
  exact ⟨this.2.2.1, this.2.2.2⟩
theorem valid_2' {n : Int} {s : ByteArray} {b : Bool} (h : valid 2 n s b = true) : n = 0 ∧ b = false := by
  unfold valid at h
  rw [if_neg (by omega), if_pos rfl] at h
  simp only [Bool.and_eq_true] at h
  have := veq_true h.1
  exact ⟨this.2.1, this.2.2.2⟩
theorem valid_3' {n : Int} {s : ByteArray} {b : Bool} (h : valid 3 n s b = true) : n = 0 ∧ s = ⟨#[]⟩ := by
  unfold valid at h
  rw [if_neg (by omega), if_neg (by omega), if_pos rfl] at h
  have := veq_true h
  exact ⟨this.2.1, this.2.2.1⟩
theorem showT_1 {n : Int} {s : ByteArray} {b : Bool} (h : valid 1 n s b = true) : showT 1 n s b = Lib.itoa n := by unfold showT; rw [h]; rfl
theorem showT_2 {n : Int} {s : ByteArray} {b : Bool} (h : valid 2 n s b = true) : showT 2 n s b = quoteL s.data.toList := by unfold showT; rw [h]; rfl
theorem showT_3 {n : Int} {s : ByteArray} {b : Bool} (h : valid 3 n s b = true) : showT 3 n s b = if b = true then [84, 82, 85, 69] else [70, 65, 76, 83, 69] := by unfold showT; rw [h]; rfl
theorem lowHex_inj {c d d' : Int} (h : LowHex c d) (h' : LowHex c d') : d = d' := by
  rcases h with ⟨_, _, _⟩ | ⟨_, _, _⟩ <;> rcases h' with ⟨_, _, _⟩ | ⟨_, _, _⟩ <;> omega
theorem escB_inj {b b' : UInt8} {r r' : List UInt8} (h : escB b ++ r = escB b' ++ r') : b = b' ∧ r = r' := by
  have key : b = b' ∧ (escB b).length = (escB b').length := by
    obtain ⟨l, hl⟩ : ∃ l, l = escB b ++ r := ⟨_, rfl⟩
    have hl' : l = escB b' ++ r' := hl.trans h
    have hp := escB_pos b
    cases hc : l.head? with
    | none =>
      have : l = [] := by cases l <;> simp_all
      rw [this] at hl
      have := congrArg List.length hl
      simp at this
      omega
    | some c =>
      by_cases h92 : c = 92
      · subst h92
        obtain ⟨d, t, e, hd⟩ := fb_case_two hl hc
        obtain ⟨d', t', e', hd'⟩ := fb_case_two hl' hc
        rw [e] at e'
        simp only [List.cons.injEq, true_and] at e'
        obtain ⟨rfl, rfl⟩ := e'
        rcases hd with ⟨h1, h2, h3⟩ | ⟨h1, h2, h3⟩ | ⟨h1, h2, h3⟩ | ⟨h1, h2, h3⟩ | ⟨h1, h3, x, y, q, h4, h5, h6⟩ <;> rcases hd' with ⟨g1, g2, g3⟩ | ⟨g1, g2, g3⟩ | ⟨g1, g2, g3⟩ | ⟨g1, g2, g3⟩ | ⟨g1, g3, x', y', q', g4, g5, g6⟩
        all_goals first
          | (exact ⟨h2.trans g2.symm, h3.trans g3.symm⟩)
          | (exact absurd (h1.symm.trans g1) (by decide))
          | skip
        rw [h4] at g4
        simp only [List.cons.injEq, true_and] at g4
        obtain ⟨rfl, rfl, _⟩ := g4
        have e1 := lowHex_inj h5 g5
        have e2 := lowHex_inj h6 g6
        exact ⟨UInt8.toNat_inj.1 (by omega), h3.trans g3.symm⟩
      · have a := fb_case_one hl hc h92
        have a' := fb_case_one hl' hc h92
        exact ⟨a.1.symm.trans a'.1, a.2.trans a'.2.symm⟩
  exact ⟨key.1, (List.append_inj h key.2).2⟩
theorem escLB_inj : ∀ {m m' : List UInt8}, escLB m = escLB m' → m = m'
  | [], [], _ => rfl
  | [], b :: m, h => by
    have h3 := escB_pos b
    have h4 : (escLB (b :: m)).length = (escB b).length + (escLB m).length := by simp [escLB]
    rw [← h] at h4
    have h5 : (escLB []).length = 0 := rfl
    omega
  | b :: m, [], h => by
    have h3 := escB_pos b
    have h4 : (escLB (b :: m)).length = (escB b).length + (escLB m).length := by simp [escLB]
    rw [h] at h4
    have h5 : (escLB []).length = 0 := rfl
    omega
  | b :: m, b' :: m', h => by
    have := escB_inj (show escB b ++ escLB m = escB b' ++ escLB m' from h)
    rw [this.1, escLB_inj this.2]
theorem quoteL_inj {m m' : List UInt8} (h : quoteL m = quoteL m') : m = m' := by
  rw [quoteL_eq, quoteL_eq] at h
  simp only [List.cons.injEq, true_and] at h
  exact escLB_inj (List.append_cancel_right h)
theorem itoa_inj {n m : Int} (hn : I64 n) (hm : I64 m) (h : Lib.itoa n = Lib.itoa m) : n = m := by
  have := parse_itoa n hn
  rw [h, parse_itoa m hm] at this
  injection this with h
  exact h.symm
/-- of three kinds of texts: what they begin with -/
theorem head_itoa {n : Int} {c : UInt8} {r : List UInt8} (h : Lib.itoa n = c :: r) : c.toNat = 45 ∨ (48 ≤ c.toNat ∧ c.toNat ≤ 57) := by
  obtain ⟨c', r', e, hc⟩ := itoa_head n
  rw [h] at e
  simp only [List.cons.injEq] at e
  rw [e.1]
  exact hc
theorem showT_inj {k n : Int} {s : ByteArray} {b : Bool} {k' n' : Int} {s' : ByteArray} {b' : Bool} (hv : valid k n s b = true) (hv' : valid k' n' s' b' = true) (hn : I64 n) (hn' : I64 n') (h : showT k n s b = showT k' n' s' b') :
    k = k' ∧ n = n' ∧ s = s' ∧ b = b' := by
  rcases valid_kind hv with rfl | rfl | rfl <;> rcases valid_kind hv' with rfl | rfl | rfl
  · obtain ⟨rfl, rfl⟩ := valid_1' hv
    obtain ⟨rfl, rfl⟩ := valid_1' hv'
    rw [showT_1 hv, showT_1 hv'] at h
    exact ⟨rfl, itoa_inj hn hn' h, rfl, rfl⟩
  · rw [showT_1 hv, showT_2 hv', quoteL_eq] at h
    have := head_itoa h
    simp at this
  · rw [showT_1 hv, showT_3 hv'] at h
    cases b' <;> simp at h <;> have := head_itoa h <;> simp at this
  · rw [showT_2 hv, showT_1 hv', quoteL_eq] at h
    have := head_itoa h.symm
    simp at this
  · obtain ⟨rfl, rfl⟩ := valid_2' hv
    obtain ⟨rfl, rfl⟩ := valid_2' hv'
    rw [showT_2 hv, showT_2 hv'] at h
    exact ⟨rfl, rfl, bytes_ext (quoteL_inj h), rfl⟩
  · rw [showT_2 hv, showT_3 hv', quoteL_eq] at h
    cases b' <;> simp at h
  · rw [showT_3 hv, showT_1 hv'] at h
    cases b <;> simp at h <;> have := head_itoa h.symm <;> simp at this
  · rw [showT_3 hv, showT_2 hv', quoteL_eq] at h
    cases b <;> simp at h
  · obtain ⟨rfl, rfl⟩ := valid_3' hv
    obtain ⟨rfl, rfl⟩ := valid_3' hv'
    rw [showT_3 hv, showT_3 hv'] at h
    cases b <;> cases b' <;> simp at h <;> exact ⟨rfl, rfl, rfl, rfl⟩
theorem showT_len {k n : Int} {s : ByteArray} {b : Bool} (hv : valid k n s b = true) (hn : I64 n) : 1 ≤ (showT k n s b).length ∧ (showT k n s b).length ≤ 1026 := by
  rcases valid_kind hv with rfl | rfl | rfl
  · rw [showT_1 hv]
    obtain ⟨c, r, e, _⟩ := itoa_head n
    have h1 := Lib.itoa_length_le n hn.1 hn.2
    refine ⟨by rw [e]; simp, by omega⟩
  · rw [showT_2 hv, quoteL_len]
    have h1 := escL_len s.data.toList
    have h2 := valid_two hv
    have h3 : s.data.toList.length = s.size := by simp
    omega
  · rw [showT_3 hv]
    cases b <;> simp
end Go.Proofs.YtkficmbkoinjjaaDoor.V
