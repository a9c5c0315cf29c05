/- Tokens of a text, byte by byte: plain facts. -/
import Derived.Test.YtdafnkfnaknoiaaDoorA1
import Derived.Lib.ParseIntB
import Derived.Lib.ItoaLen
namespace Go.Proofs.YtdafnkfnaknoiaaDoor
open Go Go.RowKit
set_option maxHeartbeats 1000000
set_option linter.unusedVariables false
set_option linter.unusedSimpArgs false
/-- a character of a string: the text ends in it; a fault; the byte that it stands for and how many bytes it has -/
inductive Ch where
  | opn
  | bad (E : Int)
  | ok (b : UInt8) (n : Nat)
/-- what a hexadecimal digit is worth -/
def hexV (c : UInt8) : Option Nat :=
  if 48 ≤ c.toNat ∧ c.toNat ≤ 57 then some (c.toNat - 48) else if 97 ≤ c.toNat ∧ c.toNat ≤ 102 then some (c.toNat - 87) else if 65 ≤ c.toNat ∧ c.toNat ≤ 70 then some (c.toNat - 55) else none
theorem hexV_lt {c : UInt8} {x : Nat} (h : hexV c = some x) : x < 16 := by
  unfold hexV at h
  split at h
  · injection h; omega
  · split at h
    · injection h; omega
    · split at h
      · injection h; omega
      · cases h
/-- behind \x -/
def hexL : List UInt8 → Ch
  | [] => .opn
  | a :: r => match hexV a with
    | none => .bad 51
    | some x => match r with
      | [] => .opn
      | b :: _ => match hexV b with
        | none => .bad 51
        | some y => .ok (UInt8.ofNat (16 * x + y)) 4
/-- behind a backslash -/
def escC : List UInt8 → Ch
  | [] => .opn
  | b :: r => if b = 34 ∨ b = 92 then .ok b 2 else if b = 110 then .ok 10 2 else if b = 116 then .ok 9 2 else if b = 120 then hexL r else .bad 51
def charL : List UInt8 → Ch
  | [] => .opn
  | c :: t => if c.toNat < 32 ∨ 126 < c.toNat then .bad 50 else if c = 92 then escC t else .ok c 1
theorem charL_ok {l : List UInt8} {b : UInt8} {n : Nat} (h : charL l = .ok b n) : 0 < n ∧ n ≤ l.length := by
  match l, h with
  | [], h => cases h
  | c :: t, h =>
    rw [charL] at h
    split at h
    · cases h
    · split at h
      · match t, h with
        | [], h => cases h
        | d :: r, h =>
          rw [escC] at h
          split at h
          · cases h; simp
          · split at h
            · cases h; simp
            · split at h
              · cases h; simp
              · split at h
                · match r, h with
                  | [], h => cases h
                  | a :: q, h =>
                    simp only [hexL] at h
                    split at h
                    · cases h
                    · match q, h with
                      | [], h => cases h
                      | e :: z, h =>
                        simp only at h
                        split at h
                        · cases h
                        · cases h; simp
                · cases h
      · cases h; simp
theorem hexL_bad {l : List UInt8} {E : Int} (h : hexL l = .bad E) : E = 51 := by
  rcases l with _ | ⟨a, l⟩
  · cases h
  · simp only [hexL] at h
    split at h
    · cases h; rfl
    · rcases l with _ | ⟨b, l⟩
      · cases h
      · simp only at h
        split at h
        · cases h; rfl
        · cases h
theorem charL_bad {l : List UInt8} {E : Int} (h : charL l = .bad E) : E = 50 ∨ E = 51 := by
  rcases l with _ | ⟨c, t⟩
  · cases h
  · rw [charL] at h
    split at h
    · cases h; exact .inl rfl
    · split at h
      · rcases t with _ | ⟨b, r⟩
        · cases h
        · rw [escC] at h
          repeat' (split at h)
          all_goals first | (cases h; done) | exact .inr (hexL_bad h) | (cases h; exact .inr rfl)
      · cases h
/-- a string: a fault at its place; the bytes that it stands for and the place behind it -/
inductive StrR where
  | bad (E : Int) (q : Nat)
  | ok (s : List UInt8) (q : Nat)
def strF : Nat → Nat → Nat → List UInt8 → List UInt8 → StrR
  | 0, _, _, _, _ => .bad 0 0
  | f + 1, op, p, acc, l => if l.head? = some 34 then .ok acc (p + 1) else match charL l with
    | .opn => .bad 52 op
    | .bad E => .bad E p
    | .ok b n => if acc.length = 256 then .bad 51 op else strF f op (p + n) (acc ++ [b]) (l.drop n)
theorem strF_fuel : ∀ (f g op p : Nat) (acc l : List UInt8), l.length < f → l.length < g → strF f op p acc l = strF g op p acc l
  | 0, _, _, _, _, _, h, _ => by omega
  | _ + 1, 0, _, _, _, _, _, h => by omega
  | f + 1, g + 1, op, p, acc, l, h1, h2 => by
    unfold strF
    cases hc : charL l with
    | opn => rfl
    | bad E => rfl
    | ok b n =>
      have := charL_ok hc
      simp only
      rw [strF_fuel f g op (p + n) (acc ++ [b]) (l.drop n) (by rw [List.length_drop]; omega) (by rw [List.length_drop]; omega)]
/-- the rest of a string, behind bytes that were read -/
def strL (op p : Nat) (acc l : List UInt8) : StrR := strF (l.length + 1) op p acc l
theorem strL_eq (op p : Nat) (acc l : List UInt8) : strL op p acc l = if l.head? = some 34 then .ok acc (p + 1) else match charL l with
    | .opn => .bad 52 op
    | .bad E => .bad E p
    | .ok b n => if acc.length = 256 then .bad 51 op else strL op (p + n) (acc ++ [b]) (l.drop n) := by
  rw [strL, strF]
  cases hc : charL l with
  | opn => rfl
  | bad E => rfl
  | ok b n =>
    have := charL_ok hc
    simp only [strL]
    rw [strF_fuel l.length ((l.drop n).length + 1) op (p + n) (acc ++ [b]) (l.drop n) (by rw [List.length_drop]; omega) (by omega)]
theorem strL_ok : ∀ (k : Nat) (op p : Nat) (acc l s : List UInt8) (q : Nat), l.length ≤ k → strL op p acc l = .ok s q → p < q ∧ q ≤ p + l.length
  | k, op, p, acc, l, s, q, hk, h => by
    rw [strL_eq] at h
    by_cases h34 : l.head? = some 34
    · rw [if_pos h34] at h
      cases h
      cases l with
      | nil => simp at h34
      | cons a t => simp
    · rw [if_neg h34] at h
      cases hc : charL l with
      | opn => rw [hc] at h; cases h
      | bad E => rw [hc] at h; cases h
      | ok b n =>
        rw [hc] at h
        simp only at h
        have hn := charL_ok hc
        split at h
        · cases h
        · match k, hk with
          | 0, hk => omega
          | k + 1, hk =>
            have := strL_ok k op (p + n) (acc ++ [b]) (l.drop n) s q (by rw [List.length_drop]; omega) h
            rw [List.length_drop] at this
            omega
/-- what stands at the head of a text: nothing; blanks or a note of so many bytes; a token; a fault -/
inductive Stp where
  | fin
  | skip (n : Nat)
  | tok (k : Int) (s : List UInt8) (n : Nat)
  | bad (E : Int) (q : Nat)
def blankB (c : UInt8) : Bool := c == 32 || c == 9 || c == 10 || c == 13
def dgB (c : UInt8) : Bool := dgt (c.toNat : Int)
/-- how long a note is -/
def noteL (l : List UInt8) : Nat := (l.takeWhile (· != 10)).length
/-- a number that may be -/
def numB (d : List UInt8) : Bool := match Lib.parseIntB 64 d with
  | .ok v => decide (Lib.itoa v = d)
  | _ => false
/-- how many bytes the sign has -/
def signL : List UInt8 → Nat
  | [] => 0
  | c :: t => if c = 46 then (if t.head? = some 46 then 2 else 1) else if c = 33 ∨ c = 60 ∨ c = 62 then (if t.head? = some 61 then 2 else 1)
    else if c = 40 ∨ c = 41 ∨ c = 91 ∨ c = 93 ∨ c = 123 ∨ c = 125 ∨ c = 44 ∨ c = 43 ∨ c = 45 ∨ c = 42 ∨ c = 61 then 1 else 0
theorem signL_le (l : List UInt8) : signL l ≤ l.length := by
  unfold signL
  split
  · simp
  · rename_i c t
    cases t <;> simp <;> (repeat' split) <;> simp
def stepL (l : List UInt8) (p : Nat) : Stp := match l with
  | [] => .fin
  | c :: t => if blankB c then .skip 1 else if c = 45 ∧ t.head? = some 45 then .skip (noteL (c :: t))
    else if c = 34 then (match strL p (p + 1) [] t with
      | .bad E q => .bad E q
      | .ok s q => .tok 3 s (q - p))
    else if dgB c then (if numB ((c :: t).take (wl (c :: t))) then .tok 2 ((c :: t).take (wl (c :: t))) (wl (c :: t)) else .bad 51 p)
    else if 0 < wl (c :: t) then (if 32 < wl (c :: t) then .bad 51 p else .tok 1 ((c :: t).take (wl (c :: t))) (wl (c :: t)))
    else if signL (c :: t) = 0 then .bad 50 p else .tok 4 ((c :: t).take (signL (c :: t))) (signL (c :: t))
theorem wl_le (l : List UInt8) : wl l ≤ l.length := by
  unfold wl
  exact (List.takeWhile_prefix _).length_le
theorem wl_dg {c : UInt8} (t : List UInt8) (h : dgB c = true) : 0 < wl (c :: t) := by
  unfold wl
  rw [List.takeWhile_cons_of_pos (by unfold isW wch; unfold dgB at h; rw [h]; rfl)]
  simp
theorem noteL_pos {c : UInt8} (t : List UInt8) (h : c ≠ 10) : 0 < noteL (c :: t) := by
  unfold noteL
  rw [List.takeWhile_cons_of_pos (by simpa using h)]
  simp
theorem noteL_le (l : List UInt8) : noteL l ≤ l.length := by
  unfold noteL
  exact (List.takeWhile_prefix _).length_le
theorem stepL_skip {l : List UInt8} {p n : Nat} (h : stepL l p = .skip n) : 0 < n ∧ n ≤ l.length := by
  match l, h with
  | [], h => cases h
  | c :: t, h =>
    unfold stepL at h
    simp only at h
    split at h
    · cases h; simp
    · split at h
      · rename_i hb hc
        cases h
        exact ⟨noteL_pos _ (by rw [hc.1]; decide), noteL_le _⟩
      · split at h
        · split at h <;> cases h
        · split at h
          · split at h <;> cases h
          · split at h
            · split at h <;> cases h
            · split at h <;> cases h
theorem stepL_tok {l : List UInt8} {p n : Nat} {k : Int} {s : List UInt8} (h : stepL l p = .tok k s n) : 0 < n ∧ n ≤ l.length := by
  match l, h with
  | [], h => cases h
  | c :: t, h =>
    unfold stepL at h
    simp only at h
    split at h
    · cases h
    · split at h
      · cases h
      · split at h
        · split at h
          · cases h
          · rename_i s' q hs
            cases h
            have := strL_ok _ _ _ _ _ _ _ (Nat.le_refl _) hs
            simp only [List.length_cons]
            omega
        · split at h
          · rename_i hd
            split at h
            · cases h; exact ⟨wl_dg _ hd, wl_le _⟩
            · cases h
          · split at h
            · rename_i hw
              split at h
              · cases h
              · cases h; exact ⟨hw, wl_le _⟩
            · split at h
              · cases h
              · cases h; exact ⟨by omega, signL_le _⟩
abbrev Tk := Int × List UInt8 × Nat
/-- what a text is cut into: a fault at its place, or tokens -/
inductive Sc where
  | bad (E : Int) (q : Nat)
  | ok (l : List Tk)
def scanF : Nat → Nat → List Tk → List UInt8 → Sc
  | 0, _, _, _ => .bad 0 0
  | f + 1, p, R, l => match stepL l p with
    | .fin => .ok (R ++ [(5, [], p)])
    | .skip n => scanF f (p + n) R (l.drop n)
    | .tok k s n => scanF f (p + n) (R ++ [(k, s, p)]) (l.drop n)
    | .bad E q => .bad E q
theorem scanF_fuel : ∀ (f g p : Nat) (R : List Tk) (l : List UInt8), l.length < f → l.length < g → scanF f p R l = scanF g p R l
  | 0, _, _, _, _, h, _ => by omega
  | _ + 1, 0, _, _, _, _, h => by omega
  | f + 1, g + 1, p, R, l, h1, h2 => by
    unfold scanF
    cases hc : stepL l p with
    | fin => rfl
    | bad E q => rfl
    | skip n =>
      have := stepL_skip hc
      simp only
      rw [scanF_fuel f g (p + n) R (l.drop n) (by rw [List.length_drop]; omega) (by rw [List.length_drop]; omega)]
    | tok k s n =>
      have := stepL_tok hc
      simp only
      rw [scanF_fuel f g (p + n) _ (l.drop n) (by rw [List.length_drop]; omega) (by rw [List.length_drop]; omega)]
/-- the tokens of what is left, behind others -/
def scanT (p : Nat) (R : List Tk) (l : List UInt8) : Sc := scanF (l.length + 1) p R l
theorem scanT_eq (p : Nat) (R : List Tk) (l : List UInt8) : scanT p R l = match stepL l p with
    | .fin => .ok (R ++ [(5, [], p)])
    | .skip n => scanT (p + n) R (l.drop n)
    | .tok k s n => scanT (p + n) (R ++ [(k, s, p)]) (l.drop n)
    | .bad E q => .bad E q := by
  rw [scanT, scanF]
  cases hc : stepL l p with
  | fin => rfl
  | bad E q => rfl
  | skip n =>
    have := stepL_skip hc
    simp only [scanT]
    rw [scanF_fuel l.length ((l.drop n).length + 1) (p + n) R (l.drop n) (by rw [List.length_drop]; omega) (by omega)]
  | tok k s n =>
    have := stepL_tok hc
    simp only [scanT]
    rw [scanF_fuel l.length ((l.drop n).length + 1) (p + n) _ (l.drop n) (by rw [List.length_drop]; omega) (by omega)]
/-- what a text is cut into -/
def scanL (l : List UInt8) : Sc := if 4096 < l.length then .bad 2 0 else scanT 0 [] l
end Go.Proofs.YtdafnkfnaknoiaaDoor
