/- The scanner of package token: one token, as it counts: what each kind of step gives. -/
import Derived.Test.YtdafnkfnaknoiaaDoorC7
namespace Go.Proofs.YtdafnkfnaknoiaaDoor
open Go Go.RowKit
set_option maxHeartbeats 1000000
set_option linter.unusedVariables false
set_option linter.unusedSimpArgs false
theorem sttL_cons (c : UInt8) (t : List UInt8) : sttL (c :: t) = if blankB c then 1 else if c = 45 ∧ t.head? = some 45 then 2 else if c = 34 then 5 else if dgB c then 4 else if 0 < wl (c :: t) then 3 else if signL (c :: t) = 0 then 7 else 6 := rfl
theorem stepL_cons (c : UInt8) (t : List UInt8) (p : Nat) : stepL (c :: t) p = if blankB c then .skip 1 else if c = 45 ∧ t.head? = some 45 then .skip (noteL (c :: t))
    else if c = 34 then (match strL p (p + 1) [] t with
      | .bad E q => .bad E q
      | .ok s q => .tok 3 s (q - p))
    else if dgB c then (if numB ((c :: t).take (wl (c :: t))) then .tok 2 ((c :: t).take (wl (c :: t))) (wl (c :: t)) else .bad 51 p)
    else if 0 < wl (c :: t) then (if 32 < wl (c :: t) then .bad 51 p else .tok 1 ((c :: t).take (wl (c :: t))) (wl (c :: t)))
    else if signL (c :: t) = 0 then .bad 50 p else .tok 4 ((c :: t).take (signL (c :: t))) (signL (c :: t)) := rfl
/-- what the scanner stands ahead of, case by case -/
theorem stt_cases (l : List UInt8) (p : Nat) :
    (l = [] ∧ sttL l = 0 ∧ stepL l p = .fin) ∨
    (∃ c t, l = c :: t ∧ sttL l = 1 ∧ stepL l p = .skip 1) ∨
    (∃ t, l = 45 :: 45 :: t ∧ sttL l = 2 ∧ stepL l p = .skip (noteL l)) ∨
    (∃ t, l = 34 :: t ∧ sttL l = 5 ∧ stepL l p = match strL p (p + 1) [] t with | .bad E q => .bad E q | .ok s q => .tok 3 s (q - p)) ∨
    (∃ c t, l = c :: t ∧ dgB c = true ∧ sttL l = 4 ∧ stepL l p = if numB (l.take (wl l)) then .tok 2 (l.take (wl l)) (wl l) else .bad 51 p) ∨
    (l ≠ [] ∧ 0 < wl l ∧ sttL l = 3 ∧ stepL l p = if 32 < wl l then .bad 51 p else .tok 1 (l.take (wl l)) (wl l)) ∨
    (l ≠ [] ∧ sttL l = 7 ∧ stepL l p = .bad 50 p) ∨
    (l ≠ [] ∧ 0 < signL l ∧ sttL l = 6 ∧ stepL l p = .tok 4 (l.take (signL l)) (signL l)) := by
  rcases l with _ | ⟨c, t⟩
  · exact .inl ⟨rfl, rfl, rfl⟩
  · right
    rw [sttL_cons, stepL_cons]
    by_cases h1 : blankB c = true
    · left; exact ⟨c, t, rfl, by rw [if_pos h1], by rw [if_pos h1]⟩
    · right
      rw [if_neg h1, if_neg h1]
      by_cases h2 : c = 45 ∧ t.head? = some 45
      · left
        obtain ⟨rfl, h2⟩ := h2
        rcases t with _ | ⟨d, t⟩
        · simp at h2
        · simp at h2
          subst h2
          exact ⟨t, rfl, by simp, by simp⟩
      · right
        rw [if_neg h2, if_neg h2]
        by_cases h3 : c = 34
        · left
          subst h3
          exact ⟨t, rfl, by simp, by simp⟩
        · right
          rw [if_neg h3, if_neg h3]
          by_cases h4 : dgB c = true
          · left
            exact ⟨c, t, rfl, h4, by rw [if_pos h4], by rw [if_pos h4]⟩
          · right
            rw [if_neg h4, if_neg h4]
            by_cases h5 : 0 < wl (c :: t)
            · left
              exact ⟨by simp, h5, by rw [if_pos h5], by rw [if_pos h5]⟩
            · right
              rw [if_neg h5, if_neg h5]
              by_cases h6 : signL (c :: t) = 0
              · left
                exact ⟨by simp, by rw [if_pos h6], by rw [if_pos h6]⟩
              · right
                exact ⟨by simp, by omega, by rw [if_neg h6], by rw [if_neg h6]⟩
/-- a token was read, or a fault found -/
def Step (T : ByteArray) (X : Sc) (L : List Tk) (p : Nat) (k : Int) (S : ByteArray) (q : Nat) (f : Int) : Prop :=
  (f = 0 ∧ p < q ∧ q ≤ T.size ∧ X = scanT q (L ++ [(k, S.data.toList, p)]) (T.data.toList.drop q)) ∨ (f ≠ 0 ∧ X = .bad f q)
theorem Step.tok {T : ByteArray} {X : Sc} {L : List Tk} {p : Nat} {k : Int} {s : List UInt8} {n : Nat} (hX : X = scanT p L (T.data.toList.drop p)) (hp : p ≤ T.size) (hs : stepL (T.data.toList.drop p) p = .tok k s n) : Step T X L p k ⟨s.toArray⟩ (p + n) 0 := by
  have hn := stepL_tok hs
  rw [List.length_drop] at hn
  have : T.data.toList.length = T.size := by simp
  refine .inl ⟨rfl, by omega, by omega, ?_⟩
  rw [hX, scanT_eq, hs]
  simp only
  rw [List.drop_drop]
theorem Step.fault {T : ByteArray} {X : Sc} {L : List Tk} {p : Nat} {k : Int} {S : ByteArray} {E : Int} {q : Nat} (hX : X = scanT p L (T.data.toList.drop p)) (hE : E ≠ 0) (hs : stepL (T.data.toList.drop p) p = .bad E q) : Step T X L p k S q E :=
  .inr ⟨hE, by rw [hX, scanT_eq, hs]⟩
/-- a call of the scanner's that reads a token -/
def Reads (fn : FuncId) (R : Nat) (T : ByteArray) (X : Sc) (L : List Tk) (p : Nat) (k : Int) (w0 : World) : Prop :=
  ∃ S q f, Step T X L p k S q f ∧ ∀ wx, Ok w0 wx → Rd wx R T p 0 → Calls Tryd.prog fn #[.pointer (some ⟨R, 0, none⟩)] wx fun e w' => e = .returned (.string S) ∧ Aft wx w' R T q f
theorem word_reads (R : Nat) (T : ByteArray) (X : Sc) (L : List Tk) (p : Nat) (w0 : World) (hT : T.size ≤ 4096) (hp : p ≤ T.size) (hX : X = scanT p L (T.data.toList.drop p)) (hs : stepL (T.data.toList.drop p) p = if 32 < wl (T.data.toList.drop p) then .bad 51 p else .tok 1 ((T.data.toList.drop p).take (wl (T.data.toList.drop p))) (wl (T.data.toList.drop p))) : Reads 31 R T X L p 1 w0 := by
  by_cases h : 32 < wl (T.data.toList.drop p)
  · rw [if_pos h] at hs
    refine ⟨⟨#[]⟩, p, 51, Step.fault hX (by omega) hs, fun wx _ hr => (word_any R T p wx hr hp hT).mono fun e w' hk => ?_⟩
    rw [show decide (wl (T.data.toList.drop p) ≤ 32) = false by simp; omega] at hk
    exact hk
  · rw [if_neg h] at hs
    refine ⟨_, _, 0, Step.tok hX hp hs, fun wx _ hr => (word_any R T p wx hr hp hT).mono fun e w' hk => ?_⟩
    rw [show decide (wl (T.data.toList.drop p) ≤ 32) = true by simp; omega] at hk
    exact hk
theorem num_reads (R : Nat) (T : ByteArray) (X : Sc) (L : List Tk) (p : Nat) (w0 : World) (hr0 : w0.heap.size ≤ R) (hT : T.size ≤ 4096) (hp : p ≤ T.size) (c : UInt8) (t : List UInt8) (hl : T.data.toList.drop p = c :: t) (hc : dgB c = true) (hX : X = scanT p L (T.data.toList.drop p))
    (hs : stepL (T.data.toList.drop p) p = if numB ((T.data.toList.drop p).take (wl (T.data.toList.drop p))) then .tok 2 ((T.data.toList.drop p).take (wl (T.data.toList.drop p))) (wl (T.data.toList.drop p)) else .bad 51 p) : Reads 32 R T X L p 2 w0 := by
  cases h : numB ((T.data.toList.drop p).take (wl (T.data.toList.drop p)))
  · rw [h] at hs
    refine ⟨⟨#[]⟩, p, 51, Step.fault hX (by omega) hs, fun wx ho hr => (num_any R T p w0 wx hr hp hT ho hr0 c t hl hc).mono fun e w' hk => ?_⟩
    rw [h] at hk
    exact hk
  · rw [h] at hs
    refine ⟨_, _, 0, Step.tok hX hp hs, fun wx ho hr => (num_any R T p w0 wx hr hp hT ho hr0 c t hl hc).mono fun e w' hk => ?_⟩
    rw [h] at hk
    exact hk
theorem strL_bad : ∀ (k : Nat) (op p : Nat) (acc l : List UInt8) (E : Int) (q : Nat), l.length ≤ k → strL op p acc l = .bad E q → E ≠ 0
  | k, op, p, acc, l, E, q, hk, h => by
    rw [strL_eq] at h
    by_cases h34 : l.head? = some 34
    · rw [if_pos h34] at h
      cases h
    · rw [if_neg h34] at h
      rcases hc : charL l with _ | E' | ⟨b, n⟩
      · rw [hc] at h; cases h; decide
      · rw [hc] at h
        cases h
        rcases charL_bad hc with rfl | rfl <;> decide
      · rw [hc] at h
        simp only at h
        have hn := charL_ok hc
        split at h
        · cases h; decide
        · match k, hk with
          | 0, hk => omega
          | k + 1, hk => exact strL_bad k op (p + n) (acc ++ [b]) (l.drop n) E q (by rw [List.length_drop]; omega) h
theorem str_reads (R : Nat) (T : ByteArray) (X : Sc) (L : List Tk) (p : Nat) (w0 : World) (hT : T.size ≤ 4096) (hp : p ≤ T.size) (t : List UInt8) (hl : T.data.toList.drop p = 34 :: t) (hX : X = scanT p L (T.data.toList.drop p))
    (hs : stepL (T.data.toList.drop p) p = match strL p (p + 1) [] t with | .bad E q => .bad E q | .ok s q => .tok 3 s (q - p)) : Reads 33 R T X L p 3 w0 := by
  have hp1 : p + 1 ≤ T.size := by
    have := congrArg List.length hl
    simp at this
    omega
  have ht : T.data.toList.drop (p + 1) = t := by
    rw [← List.drop_drop, hl]
    rfl
  rcases h : strL p (p + 1) [] t with ⟨E, q⟩ | ⟨s, q⟩
  · rw [h] at hs
    refine ⟨⟨#[]⟩, q, E, Step.fault hX (strL_bad _ _ _ _ _ _ _ (Nat.le_refl _) h) hs, fun wx ho hr => (str_any R T p wx hr hp1 hT).mono fun e w' hk => ?_⟩
    rw [ht, h] at hk
    exact hk
  · rw [h] at hs
    have hq := strL_ok _ _ _ _ _ _ _ (Nat.le_refl _) h
    refine ⟨_, _, 0, Step.tok hX hp hs, fun wx ho hr => (str_any R T p wx hr hp1 hT).mono fun e w' hk => ?_⟩
    rw [ht, h] at hk
    rw [show p + (q - p) = q by omega]
    exact hk
end Go.Proofs.YtdafnkfnaknoiaaDoor
