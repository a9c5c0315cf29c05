/- What the document's own answer guesses of a text: plain facts: the digits added up; the bytes between the quotes. -/
import Derived.Test.YtkficmbkoinjjaaGreatDoorVG2
import Derived.Test.YtkficmbkoinjjaaGreatDoorVR1
namespace Go.Proofs.YtkficmbkoinjjaaGreatDoor.V
open Go Go.RowKit
set_option linter.unusedVariables false
set_option linter.unusedSimpArgs false
def gstep (a : Nat) (c : UInt8) : Nat := if 48 ≤ c.toNat ∧ c.toNat ≤ 57 then (a * 10 + (c.toNat - 48)) % 18446744073709551616 else a
def gnum (l : List UInt8) : Nat := l.foldl gstep 0
theorem gnum_snoc (l : List UInt8) (c : UInt8) : gnum (l ++ [c]) = gstep (gnum l) c := by simp [gnum]
theorem gstep_lt {a : Nat} (h : a < 18446744073709551616) (c : UInt8) : gstep a c < 18446744073709551616 := by
  unfold gstep
  split
  · exact Nat.mod_lt _ (by decide)
  · exact h
theorem gfold_lt (l : List UInt8) : ∀ a, a < 18446744073709551616 → l.foldl gstep a < 18446744073709551616 := by
  induction l with
  | nil => exact fun a h => h
  | cons c l ih => exact fun a h => ih _ (gstep_lt h c)
theorem gnum_lt (l : List UInt8) : gnum l < 18446744073709551616 := gfold_lt l 0 (by decide)
theorem gnum_dec (u : Nat) : u < 18446744073709551616 → gnum (Lib.decDigits u) = u := by
  induction u using Nat.strongRecOn with
  | _ u ih =>
    intro hu
    by_cases h : u < 10
    · rw [Lib.decDigits_one h]
      show gstep 0 (UInt8.ofNat (48 + u)) = u
      unfold gstep
      rw [digit_nat u h, if_pos (by omega)]
      omega
    · rw [decDigits_step u h, gnum_snoc, ih (u / 10) (by omega) (by omega)]
      unfold gstep
      rw [digit_nat (u % 10) (by omega), if_pos (by omega)]
      omega
/-- the number: behind a sign its opposite, as 64 bits -/
def gval (l : List UInt8) : Int :=
  let n : Nat := if l.head? = some 45 then (18446744073709551616 - gnum l) % 18446744073709551616 else gnum l
  if n < 9223372036854775808 then (n : Int) else (n : Int) - 18446744073709551616
theorem gval_i64 (l : List UInt8) : I64 (gval l) := by
  have h := gnum_lt l
  have h2 : (if l.head? = some 45 then (18446744073709551616 - gnum l) % 18446744073709551616 else gnum l) < 18446744073709551616 := by
    split
    · exact Nat.mod_lt _ (by decide)
    · exact h
  unfold gval I64
  simp only []
  generalize (if l.head? = some 45 then (18446744073709551616 - gnum l) % 18446744073709551616 else gnum l) = n at h2
  split <;> omega
theorem gval_itoa (n : Int) (h : I64 n) : gval (Lib.itoa n) = n := by
  obtain ⟨h0, h1⟩ := h
  by_cases hn : n < 0
  · obtain ⟨u, hu⟩ : ∃ u : Nat, n = -(u : Int) := ⟨n.natAbs, by omega⟩
    subst hu
    rw [Lib.itoa_neg u (by omega)]
    have e : gnum (45 :: Lib.decDigits u) = u := gnum_dec u (by omega)
    unfold gval
    simp only [List.head?_cons, if_true, e]
    have : (18446744073709551616 - u) % 18446744073709551616 = 18446744073709551616 - u := Nat.mod_eq_of_lt (by omega)
    rw [this, if_neg (by omega)]
    omega
  · obtain ⟨u, hu⟩ : ∃ u : Nat, n = (u : Int) := ⟨n.toNat, by omega⟩
    subst hu
    rw [Lib.itoa_nonneg u]
    obtain ⟨c, r, e, hc0, hc1⟩ := dec_head u
    have hh : ¬ (Lib.decDigits u).head? = some 45 := by
      rw [e]
      intro hx
      simp at hx
      rw [hx] at hc0
      exact absurd hc0 (by decide)
    unfold gval
    simp only [if_neg hh, gnum_dec u (by omega)]
    rw [if_pos (by omega)]
/-- a hexadecimal digit's number, or 0 -/
def nib (c : Nat) : Nat := if 48 ≤ c ∧ c ≤ 57 then c - 48 else if 97 ≤ c ∧ c ≤ 102 then c - 87 else 0
theorem nib_lt (c : Nat) : nib c < 16 := by
  unfold nib
  split
  · omega
  · split <;> omega
theorem nib_low {c d : Nat} (h : LowHex c d) : nib c = d := by
  unfold nib
  rcases h with ⟨h1, h2, h3⟩ | ⟨h1, h2, h3⟩
  · rw [if_pos (by omega)]; omega
  · rw [if_neg (by omega), if_pos (by omega)]; omega
/-- how far the bytes between the quotes have been read: what has been read, and where the next one stands -/
def URel (l out : List UInt8) (i : Nat) : Prop := ∀ m, l = quoteL m → ∃ m2, m = out ++ m2 ∧ l.drop i = escLB m2 ++ [34]
theorem urel_start (l : List UInt8) : URel l [] 1 := fun m hm => ⟨m, rfl, by rw [hm, quoteL_eq]; rfl⟩
theorem urel_next {l out : List UInt8} {i : Nat} (h : URel l out i) (hi : i + 1 < l.length) (m : List UInt8) (hm : l = quoteL m) : ∃ b m3, m = out ++ b :: m3 ∧ l.drop i = escB b ++ (escLB m3 ++ [34]) := by
  obtain ⟨m2, e1, e2⟩ := h m hm
  have hl := congrArg List.length e2
  rw [List.length_drop] at hl
  cases m2 with
  | nil =>
    have h5 : (escLB [] ++ [34] : List UInt8).length = 1 := rfl
    rw [h5] at hl
    omega
  | cons b m3 => exact ⟨b, m3, e1, by rw [e2]; simp [escLB]⟩
theorem urel_step {l out : List UInt8} {i n : Nat} {b : UInt8} {m3 m : List UInt8} (e1 : m = out ++ b :: m3) (e2 : l.drop i = escB b ++ (escLB m3 ++ [34])) (hn : (escB b).length = n) : m = (out ++ [b]) ++ m3 ∧ l.drop (i + n) = escLB m3 ++ [34] := by
  refine ⟨by simp [e1], ?_⟩
  rw [← List.drop_drop, e2, ← hn, List.drop_left]
theorem head_drop {l : List UInt8} {i : Nat} {c : UInt8} (h : l[i]? = some c) : (l.drop i).head? = some c := by
  rw [List.head?_drop, h]
/-- a byte that stands for itself -/
theorem urel_plain {l out : List UInt8} {i : Nat} {c : UInt8} (h : URel l out i) (hi : i + 1 < l.length) (hc : l[i]? = some c) (hne : c ≠ 92) : URel l (out ++ [c]) (i + 1) := by
  intro m hm
  obtain ⟨b, m3, e1, e2⟩ := urel_next h hi m hm
  have := fb_case_one e2 (head_drop hc) hne
  obtain ⟨rfl, hl⟩ := this
  exact ⟨m3, urel_step e1 e2 hl⟩
/-- a backslash at the end -/
theorem urel_end {l out out' : List UInt8} {i j : Nat} (h : URel l out i) (hi : i + 1 < l.length) (hc : l[i]? = some 92) (he : l.length ≤ i + 2) : URel l out' j := by
  intro m hm
  obtain ⟨b, m3, e1, e2⟩ := urel_next h hi m hm
  obtain ⟨d, l', e3, hd⟩ := fb_case_two e2 (head_drop hc)
  have h2 : 2 ≤ (escB b).length := by omega
  have hl := congrArg List.length e2
  rw [List.length_drop, List.length_append, List.length_append] at hl
  simp at hl
  omega
theorem second {l : List UInt8} {i : Nat} {c d : UInt8} {l' : List UInt8} (e : l.drop i = c :: d :: l') : l[i + 1]? = some d := by
  have := congrArg (·[1]?) e
  simpa [List.getElem?_drop] using this
theorem third {l : List UInt8} {i : Nat} {c d x y : UInt8} {l' : List UInt8} (e : l.drop i = c :: d :: x :: y :: l') : l[i + 2]? = some x ∧ l[i + 3]? = some y := by
  have h2 := congrArg (·[2]?) e
  have h3 := congrArg (·[3]?) e
  exact ⟨by simpa [List.getElem?_drop] using h2, by simpa [List.getElem?_drop] using h3⟩
/-- a backslash and n, t, or a byte that stands for itself -/
theorem urel_two {l out : List UInt8} {i : Nat} {d r : UInt8} (h : URel l out i) (hi : i + 1 < l.length) (hc : l[i]? = some 92) (hd : l[i + 1]? = some d) (hr : (d = 110 ∧ r = 10) ∨ (d = 116 ∧ r = 9) ∨ (d ≠ 110 ∧ d ≠ 116 ∧ d ≠ 120 ∧ r = d)) : URel l (out ++ [r]) (i + 2) := by
  intro m hm
  obtain ⟨b, m3, e1, e2⟩ := urel_next h hi m hm
  obtain ⟨d', l', e3, hcs⟩ := fb_case_two e2 (head_drop hc)
  have hdd : d = d' := by
    have := second e3
    rw [hd] at this
    exact Option.some.inj this
  subst hdd
  have key : r = b ∧ (escB b).length = 2 := by
    rcases hcs with ⟨h1, h2, h3⟩ | ⟨h1, h2, h3⟩ | ⟨h1, h2, h3⟩ | ⟨h1, h2, h3⟩ | ⟨h1, h3, _⟩ <;> subst h1
    · rcases hr with ⟨g, _⟩ | ⟨g, _⟩ | ⟨_, _, _, g⟩
      · exact absurd g (by decide)
      · exact absurd g (by decide)
      · exact ⟨g.trans h2.symm, h3⟩
    · rcases hr with ⟨g, _⟩ | ⟨g, _⟩ | ⟨_, _, _, g⟩
      · exact absurd g (by decide)
      · exact absurd g (by decide)
      · exact ⟨g.trans h2.symm, h3⟩
    · rcases hr with ⟨_, g⟩ | ⟨g, _⟩ | ⟨g, _⟩
      · exact ⟨g.trans h2.symm, h3⟩
      · exact absurd g (by decide)
      · exact absurd rfl g
    · rcases hr with ⟨g, _⟩ | ⟨_, g⟩ | ⟨_, g, _⟩
      · exact absurd g (by decide)
      · exact ⟨g.trans h2.symm, h3⟩
      · exact absurd rfl g
    · rcases hr with ⟨g, _⟩ | ⟨g, _⟩ | ⟨_, _, g, _⟩
      · exact absurd g (by decide)
      · exact absurd g (by decide)
      · exact absurd rfl g
  obtain ⟨rfl, hl⟩ := key
  exact ⟨m3, urel_step e1 e2 hl⟩
/-- a backslash, x and two digits -/
theorem urel_four {l out : List UInt8} {i : Nat} {x y r : UInt8} (h : URel l out i) (hi : i + 1 < l.length) (hc : l[i]? = some 92) (hd : l[i + 1]? = some 120) (hx : l[i + 2]? = some x) (hy : l[i + 3]? = some y) (hr : r.toNat = nib x.toNat * 16 + nib y.toNat) :
    URel l (out ++ [r]) (i + 4) := by
  intro m hm
  obtain ⟨b, m3, e1, e2⟩ := urel_next h hi m hm
  obtain ⟨d', l', e3, hcs⟩ := fb_case_two e2 (head_drop hc)
  have hdd : (120 : UInt8) = d' := by
    have := second e3
    rw [hd] at this
    exact Option.some.inj this
  subst hdd
  have key : r = b ∧ (escB b).length = 4 := by
    rcases hcs with ⟨h1, h2, h3⟩ | ⟨h1, h2, h3⟩ | ⟨h1, h2, h3⟩ | ⟨h1, h2, h3⟩ | ⟨h1, h3, x', y', r', e4, h5, h6⟩
    · exact absurd h1 (by decide)
    · exact absurd h1 (by decide)
    · exact absurd h1 (by decide)
    · exact absurd h1 (by decide)
    · obtain ⟨g1, g2⟩ := third e4
      rw [hx] at g1
      rw [hy] at g2
      obtain rfl := Option.some.inj g1
      obtain rfl := Option.some.inj g2
      rw [nib_low h5, nib_low h6] at hr
      exact ⟨UInt8.toNat_inj.1 (by omega), h3⟩
  obtain ⟨rfl, hl⟩ := key
  exact ⟨m3, urel_step e1 e2 hl⟩
/-- a backslash and x, and no room for two digits -/
theorem urel_short {l out out' : List UInt8} {i j : Nat} (h : URel l out i) (hi : i + 1 < l.length) (hc : l[i]? = some 92) (hd : l[i + 1]? = some 120) (he : l.length ≤ i + 3) : URel l out' j := by
  intro m hm
  obtain ⟨b, m3, e1, e2⟩ := urel_next h hi m hm
  obtain ⟨d', l', e3, hcs⟩ := fb_case_two e2 (head_drop hc)
  have hdd : (120 : UInt8) = d' := by
    have := second e3
    rw [hd] at this
    exact Option.some.inj this
  subst hdd
  have h4 : (escB b).length = 4 := by
    rcases hcs with ⟨h1, h2, h3⟩ | ⟨h1, h2, h3⟩ | ⟨h1, h2, h3⟩ | ⟨h1, h2, h3⟩ | ⟨h1, h3, _⟩
    · exact absurd h1 (by decide)
    · exact absurd h1 (by decide)
    · exact absurd h1 (by decide)
    · exact absurd h1 (by decide)
    · exact h3
  have hl := congrArg List.length e2
  rw [List.length_drop, List.length_append, List.length_append] at hl
  simp at hl
  omega
/-- at the last byte all has been read -/
theorem urel_done {l out : List UInt8} {i : Nat} (h : URel l out i) (hi : l.length ≤ i + 1) (m : List UInt8) (hm : l = quoteL m) : m = out := by
  obtain ⟨m2, e1, e2⟩ := h m hm
  have hl := congrArg List.length e2
  rw [List.length_drop, List.length_append] at hl
  cases m2 with
  | nil => simpa using e1
  | cons b m3 =>
    have h3 := escB_pos b
    have h4 : (escLB (b :: m3)).length = (escB b).length + (escLB m3).length := by simp [escLB]
    rw [h4] at hl
    simp at hl
    omega
/-- two answers of one text are the same -/
theorem read_same {l : List UInt8} {K N : Int} {S : ByteArray} {T : Bool} {E : Int} {K' N' : Int} {S' : ByteArray} {T' : Bool} {E' : Int}
    (h : (E = 0 ∧ valid K N S T = true ∧ I64 N ∧ showT K N S T = l) ∨ (E = 12 ∧ K = 0 ∧ N = 0 ∧ S = ⟨#[]⟩ ∧ T = false ∧ ∀ k n s b, I64 n → valid k n s b = true → l ≠ showT k n s b))
    (h' : (E' = 0 ∧ valid K' N' S' T' = true ∧ I64 N' ∧ showT K' N' S' T' = l) ∨ (E' = 12 ∧ K' = 0 ∧ N' = 0 ∧ S' = ⟨#[]⟩ ∧ T' = false ∧ ∀ k n s b, I64 n → valid k n s b = true → l ≠ showT k n s b)) :
    K = K' ∧ N = N' ∧ S = S' ∧ T = T' ∧ E = E' := by
  rcases h with ⟨rfl, hv, hn, hs⟩ | ⟨rfl, rfl, rfl, rfl, rfl, hno⟩ <;> rcases h' with ⟨rfl, hv', hn', hs'⟩ | ⟨rfl, rfl, rfl, rfl, rfl, hno'⟩
  · obtain ⟨rfl, rfl, rfl, rfl⟩ := showT_inj hv hv' hn hn' (hs.trans hs'.symm)
    exact ⟨rfl, rfl, rfl, rfl, rfl⟩
  · exact absurd hs.symm (hno' _ _ _ _ hn hv)
  · exact absurd hs'.symm (hno _ _ _ _ hn' hv')
  · exact ⟨rfl, rfl, rfl, rfl, rfl⟩
end Go.Proofs.YtkficmbkoinjjaaGreatDoor.V
/- What the document's own answer guesses of a text: a text that a value has is guessed as that value. -/
namespace Go.Proofs.YtkficmbkoinjjaaGreatDoor.V
open Go Go.RowKit
set_option linter.unusedVariables false
set_option linter.unusedSimpArgs false
theorem gs_34 {t : ByteArray} {c0 : UInt8} (hh : t.data.toList.head? = some c0) (hc : c0 = 34) {S : ByteArray} (hS : ∀ m, t.data.toList = quoteL m → m = S.data.toList) : GuessIs t 2 0 S false true := by
  refine ⟨fun _ => i64_zero, fun k n s b hn hv he => ?_⟩
  subst hc
  rcases valid_kind hv with rfl | rfl | rfl
  · rw [showT_1 hv] at he
    obtain ⟨c, r, e, hx⟩ := itoa_head n
    rw [he, e] at hh
    simp at hh
    subst hh
    exact absurd hx (by decide)
  · obtain ⟨rfl, rfl⟩ := valid_2' hv
    rw [showT_2 hv] at he
    exact ⟨rfl, rfl, rfl, (bytes_ext (hS _ he)).symm, rfl⟩
  · rw [showT_3 hv] at he
    rw [he] at hh
    cases b <;> simp at hh
theorem gs_84 {t : ByteArray} {c0 : UInt8} (hh : t.data.toList.head? = some c0) (hc : c0 = 84) : GuessIs t 3 0 ⟨#[]⟩ true true := by
  refine ⟨fun _ => i64_zero, fun k n s b hn hv he => ?_⟩
  subst hc
  rcases valid_kind hv with rfl | rfl | rfl
  · rw [showT_1 hv] at he
    obtain ⟨c, r, e, hx⟩ := itoa_head n
    rw [he, e] at hh
    simp at hh
    subst hh
    exact absurd hx (by decide)
  · rw [showT_2 hv, quoteL_eq] at he
    rw [he] at hh
    simp at hh
  · obtain ⟨rfl, rfl⟩ := valid_3' hv
    rw [showT_3 hv] at he
    rw [he] at hh
    cases b
    · simp at hh
    · exact ⟨rfl, rfl, rfl, rfl, rfl⟩
theorem gs_70 {t : ByteArray} {c0 : UInt8} (hh : t.data.toList.head? = some c0) (hc : c0 = 70) : GuessIs t 3 0 ⟨#[]⟩ false true := by
  refine ⟨fun _ => i64_zero, fun k n s b hn hv he => ?_⟩
  subst hc
  rcases valid_kind hv with rfl | rfl | rfl
  · rw [showT_1 hv] at he
    obtain ⟨c, r, e, hx⟩ := itoa_head n
    rw [he, e] at hh
    simp at hh
    subst hh
    exact absurd hx (by decide)
  · rw [showT_2 hv, quoteL_eq] at he
    rw [he] at hh
    simp at hh
  · obtain ⟨rfl, rfl⟩ := valid_3' hv
    rw [showT_3 hv] at he
    rw [he] at hh
    cases b
    · exact ⟨rfl, rfl, rfl, rfl, rfl⟩
    · simp at hh
theorem gs_num {t : ByteArray} {c0 : UInt8} (hh : t.data.toList.head? = some c0) (h1 : c0 ≠ 34) (h2 : c0 ≠ 84) (h3 : c0 ≠ 70) : GuessIs t 1 (gval t.data.toList) ⟨#[]⟩ false true := by
  refine ⟨fun _ => gval_i64 _, fun k n s b hn hv he => ?_⟩
  rcases valid_kind hv with rfl | rfl | rfl
  · obtain ⟨rfl, rfl⟩ := valid_1' hv
    rw [showT_1 hv] at he
    exact ⟨rfl, rfl, by rw [he, gval_itoa n hn], rfl, rfl⟩
  · rw [showT_2 hv, quoteL_eq] at he
    rw [he] at hh
    simp at hh
    exact absurd hh.symm h1
  · rw [showT_3 hv] at he
    rw [he] at hh
    cases b
    · simp at hh
      exact absurd hh.symm h3
    · simp at hh
      exact absurd hh.symm h2
end Go.Proofs.YtkficmbkoinjjaaGreatDoor.V
