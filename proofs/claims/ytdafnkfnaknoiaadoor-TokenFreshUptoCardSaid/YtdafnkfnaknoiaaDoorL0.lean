/- Tokens: what is cut from texts that are put together: plain facts. -/
import Derived.Test.YtdafnkfnaknoiaaDoorD2
namespace Go.Proofs.YtdafnkfnaknoiaaDoor
open Go Go.RowKit
set_option maxHeartbeats 1000000
set_option linter.unusedVariables false
set_option linter.unusedSimpArgs false
theorem scan_nil (p : Nat) (R : List Tk) : scanT p R [] = .ok (R ++ [(5, [], p)]) := by rw [scanT_eq]; rfl
theorem scan_blank (p : Nat) (R : List Tk) (c : UInt8) (l : List UInt8) (h : blankB c = true) : scanT p R (c :: l) = scanT (p + 1) R l := by
  rw [scanT_eq, stepL_cons, if_pos h]
  rfl
theorem scan_blanks (k p : Nat) (R : List Tk) (l : List UInt8) : scanT p R (List.replicate k 32 ++ l) = scanT (p + k) R l := by
  induction k generalizing p with
  | zero => rfl
  | succ k ih =>
    rw [List.replicate_succ, List.cons_append, scan_blank p R 32 _ (by decide), ih]
    congr 1
    omega
/-- nothing that stands in a word follows -/
def Ends (l : List UInt8) : Prop := ∀ c t, l = c :: t → isW c = false
theorem wl_app {W r : List UInt8} (hW : ∀ x ∈ W, isW x = true) (hr : Ends r) : wl (W ++ r) = W.length := by
  unfold wl
  rw [List.takeWhile_append_of_pos hW]
  rcases r with _ | ⟨c, t⟩
  · simp
  · rw [List.takeWhile_cons_of_neg (by rw [hr c t rfl]; simp)]
    simp
/-- what holds of a byte that a word begins with -/
theorem word_byte {c : UInt8} (h : isW c = true) (hd : dgB c = false) (t : List UInt8) : blankB c ≠ true ∧ ¬ (c = 45 ∧ t.head? = some 45) ∧ c ≠ 34 ∧ ¬ dgB c = true := by
  refine ⟨?_, ?_, ?_, by rw [hd]; simp⟩
  · intro hb
    unfold blankB at hb
    simp at hb
    rcases hb with ((rfl | rfl) | rfl) | rfl <;> exact absurd h (by decide)
  · rintro ⟨rfl, _⟩; exact absurd h (by decide)
  · rintro rfl; exact absurd h (by decide)
theorem step_word {c : UInt8} {t r : List UInt8} (p : Nat) (hW : ∀ x ∈ c :: t, isW x = true) (hd : dgB c = false) (hr : Ends r) :
    stepL (c :: t ++ r) p = if 32 < (c :: t).length then .bad 51 p else .tok 1 (c :: t) (c :: t).length := by
  obtain ⟨h1, h2, h3, h4⟩ := word_byte (hW c (by simp)) hd (t ++ r)
  have hw := wl_app hW hr
  rw [List.cons_append, stepL_cons, if_neg h1, if_neg h2, if_neg h3, if_neg h4, ← List.cons_append, hw, if_pos (by simp)]
  congr 2
  rw [List.take_left]
theorem scan_word (p : Nat) (R : List Tk) (c : UInt8) (t r : List UInt8) (hW : ∀ x ∈ c :: t, isW x = true) (hd : dgB c = false) (hr : Ends r) (hl : (c :: t).length ≤ 32) :
    scanT p R (c :: t ++ r) = scanT (p + (c :: t).length) (R ++ [(1, c :: t, p)]) r := by
  rw [scanT_eq, step_word p hW hd hr, if_neg (by omega)]
  simp only
  rw [List.drop_left]
theorem scan_long (p : Nat) (R : List Tk) (c : UInt8) (t r : List UInt8) (hW : ∀ x ∈ c :: t, isW x = true) (hd : dgB c = false) (hr : Ends r) (hl : 32 < (c :: t).length) :
    scanT p R (c :: t ++ r) = .bad 51 p := by
  rw [scanT_eq, step_word p hW hd hr, if_pos hl]
theorem step_num {c : UInt8} {t r : List UInt8} (p : Nat) (hW : ∀ x ∈ c :: t, isW x = true) (hd : dgB c = true) (hr : Ends r) :
    stepL (c :: t ++ r) p = if numB (c :: t) then .tok 2 (c :: t) (c :: t).length else .bad 51 p := by
  have h1 : ¬ blankB c = true := by
    intro hb
    unfold blankB at hb
    simp at hb
    rcases hb with ((rfl | rfl) | rfl) | rfl <;> exact absurd hd (by decide)
  have h2 : ¬ (c = 45 ∧ (t ++ r).head? = some 45) := by rintro ⟨rfl, _⟩; exact absurd hd (by decide)
  have h3 : c ≠ 34 := by rintro rfl; exact absurd hd (by decide)
  have hw := wl_app hW hr
  rw [List.cons_append, stepL_cons, if_neg h1, if_neg h2, if_neg h3, if_pos hd, ← List.cons_append, hw, List.take_left]
theorem scan_num (p : Nat) (R : List Tk) (c : UInt8) (t r : List UInt8) (hW : ∀ x ∈ c :: t, isW x = true) (hd : dgB c = true) (hr : Ends r) (hn : numB (c :: t) = true) :
    scanT p R (c :: t ++ r) = scanT (p + (c :: t).length) (R ++ [(2, c :: t, p)]) r := by
  rw [scanT_eq, step_num p hW hd hr, hn]
  simp only [if_true]
  rw [List.drop_left]
theorem scan_badnum (p : Nat) (R : List Tk) (c : UInt8) (t r : List UInt8) (hW : ∀ x ∈ c :: t, isW x = true) (hd : dgB c = true) (hr : Ends r) (hn : numB (c :: t) = false) :
    scanT p R (c :: t ++ r) = .bad 51 p := by
  rw [scanT_eq, step_num p hW hd hr, hn]
  rfl
/-! ### strings -/
/-- so a byte may be written in a string -/
def Writes (e : List UInt8) (b : UInt8) : Prop := ∀ r, charL (e ++ r) = .ok b e.length ∧ (e ++ r).head? ≠ some 34
theorem strL_step (op p : Nat) (acc e r : List UInt8) (b : UInt8) (h : Writes e b) : strL op p acc (e ++ r) = if acc.length = 256 then .bad 51 op else strL op (p + e.length) (acc ++ [b]) r := by
  obtain ⟨h1, h2⟩ := h r
  rw [strL_eq, if_neg h2, h1]
  simp only
  rw [List.drop_left]
/-- bytes and how each is written -/
theorem strL_all (op : Nat) : ∀ (es : List (List UInt8 × UInt8)) (p : Nat) (acc r : List UInt8), (∀ x ∈ es, Writes x.1 x.2) → acc.length + es.length ≤ 256 →
    strL op p acc (es.flatMap (·.1) ++ r) = strL op (p + (es.flatMap (·.1)).length) (acc ++ es.map (·.2)) r
  | [], p, acc, r, _, _ => by simp
  | x :: es, p, acc, r, h, hl => by
    have hx := h x (by simp)
    have hl' : acc.length + (es.length + 1) ≤ 256 := hl
    rw [List.flatMap_cons, List.append_assoc, strL_step op p acc x.1 _ x.2 hx, if_neg (by omega), strL_all op es (p + x.1.length) (acc ++ [x.2]) r (fun y hy => h y (by simp [hy])) (by rw [List.length_append]; simp; omega)]
    simp [Nat.add_assoc]
theorem strL_nil (op p : Nat) (acc : List UInt8) : strL op p acc [] = .bad 52 op := by rw [strL_eq]; rfl
theorem strL_end (op p : Nat) (acc r : List UInt8) : strL op p acc (34 :: r) = .ok acc (p + 1) := by rw [strL_eq]; rfl
theorem step_str (p : Nat) (t : List UInt8) : stepL (34 :: t) p = match strL p (p + 1) [] t with | .bad E q => .bad E q | .ok s q => .tok 3 s (q - p) := by
  rw [stepL_cons]
  rfl
theorem scan_str (p : Nat) (R : List Tk) (es : List (List UInt8 × UInt8)) (r : List UInt8) (h : ∀ x ∈ es, Writes x.1 x.2) (hl : es.length ≤ 256) :
    scanT p R (34 :: (es.flatMap (·.1) ++ 34 :: r)) = scanT (p + ((es.flatMap (·.1)).length + 2)) (R ++ [(3, es.map (·.2), p)]) r := by
  rw [scanT_eq, step_str, strL_all p es (p + 1) [] _ h (by simpa using hl), strL_end]
  simp only [List.nil_append]
  have e : p + 1 + (es.flatMap (·.1)).length + 1 - p = (es.flatMap (·.1)).length + 2 := by omega
  rw [e]
  congr 1
  rw [show 34 :: (es.flatMap (·.1) ++ 34 :: r) = (34 :: (es.flatMap (·.1) ++ [34])) ++ r by simp, List.drop_left' (by simp)]
theorem scan_open (p : Nat) (R : List Tk) (es : List (List UInt8 × UInt8)) (h : ∀ x ∈ es, Writes x.1 x.2) (hl : es.length ≤ 256) :
    scanT p R (34 :: es.flatMap (·.1)) = .bad 52 p := by
  have := strL_all p es (p + 1) [] [] h (by simpa using hl)
  rw [List.append_nil] at this
  rw [scanT_eq, step_str, this, strL_nil]
theorem scan_full (p : Nat) (R : List Tk) (es : List (List UInt8 × UInt8)) (e r : List UInt8) (b : UInt8) (h : ∀ x ∈ es, Writes x.1 x.2) (hl : es.length = 256) (he : Writes e b) :
    scanT p R (34 :: (es.flatMap (·.1) ++ (e ++ r))) = .bad 51 p := by
  rw [scanT_eq, step_str, strL_all p es (p + 1) [] _ h (by simp [hl]), strL_step _ _ _ _ _ b he, if_pos (by simp [hl])]
/-- a byte that stands for itself -/
theorem writes_self {b : UInt8} (h : 32 ≤ b.toNat ∧ b.toNat ≤ 126) (h34 : b ≠ 34) (h92 : b ≠ 92) : Writes [b] b := by
  intro r
  refine ⟨?_, by simpa using h34⟩
  show charL (b :: r) = _
  rw [charL, if_neg (by omega), if_neg h92]
  rfl
theorem writes_back {b : UInt8} (h : b = 34 ∨ b = 92) : Writes [92, b] b := by
  intro r
  refine ⟨?_, by simp⟩
  rcases h with rfl | rfl <;> rfl
theorem writes_n : Writes [92, 110] 10 := fun r => ⟨rfl, by simp⟩
theorem writes_t : Writes [92, 116] 9 := fun r => ⟨rfl, by simp⟩
theorem writes_x {a b c : UInt8} {x y : Nat} (ha : hexV a = some x) (hb : hexV b = some y) (hc : c = UInt8.ofNat (16 * x + y)) : Writes [92, 120, a, b] c := by
  intro r
  refine ⟨?_, by simp⟩
  show charL (92 :: 120 :: a :: b :: r) = _
  rw [charL, if_neg (by decide), if_pos rfl, escC, if_neg (by decide), if_neg (by decide), if_neg (by decide), if_pos rfl]
  simp only [hexL, ha, hb]
  rw [hc]
  rfl
theorem scanL_small {l : List UInt8} (h : l.length ≤ 4096) : scanL l = scanT 0 [] l := by unfold scanL; rw [if_neg (by omega)]
end Go.Proofs.YtdafnkfnaknoiaaDoor
