/- Tokens with one blank between each two: what they are cut into: plain facts. -/
import Derived.Test.YtdafnkfnaknoiaaDoorG5
namespace Go.Proofs.YtdafnkfnaknoiaaDoor
open Go Go.RowKit
set_option maxHeartbeats 1000000
set_option linter.unusedVariables false
set_option linter.unusedSimpArgs false
/-- a token of Tk as Go's -/
def toT (t : Tk) : Tok3 := (t.1, ⟨t.2.1.toArray⟩, (t.2.2 : Int))
theorem spl3_toT (t : Tk) : spl3 (toT t) = spellL t.1 t.2.1 := rfl
/-- their places, if the first one stands at p -/
def backL : Nat → List Tk → List Tk
  | _, [] => []
  | p, t :: r => (t.1, t.2.1, p) :: backL (p + (spellL t.1 t.2.1).length + 1) r
def outT (L : List Tk) : List UInt8 := outL (L.map fun t => spellL t.1 t.2.1)
def tailT (L : List Tk) : List UInt8 := (L.map fun t => spellL t.1 t.2.1).flatMap (fun y => 32 :: y)
theorem tailT_gap (L : List Tk) : Gap (tailT L) := by
  cases L with
  | nil => exact .inl rfl
  | cons t r => exact .inr ⟨32, _, rfl, by decide⟩
theorem scan_tail : ∀ (L : List Tk) (p : Nat) (R : List Tk), (∀ t ∈ L, Good t.1 t.2.1) → scanT p R (tailT L) = .ok (R ++ backL (p + 1) L ++ [(5, [], p + (tailT L).length)])
  | [], p, R, _ => by
    show scanT p R [] = _
    rw [scan_nil]
    simp [backL, tailT]
  | t :: r, p, R, h => by
    have e : tailT (t :: r) = 32 :: (spellL t.1 t.2.1 ++ tailT r) := by simp [tailT]
    rw [e, scan_blank p R 32 _ (by decide), (h t (by simp)).cut (p + 1) R (tailT r) (tailT_gap r), scan_tail r _ _ (fun x hx => h x (by simp [hx]))]
    simp only [backL, List.append_assoc, List.cons_append, List.nil_append, List.length_cons, List.length_append]
    rw [show p + 1 + (spellL t.1 t.2.1).length + (tailT r).length = p + ((spellL t.1 t.2.1).length + (tailT r).length + 1) by omega]
theorem outT_cons (t : Tk) (r : List Tk) : outT (t :: r) = spellL t.1 t.2.1 ++ tailT r := by simp [outT, outL, tailT]
theorem scan_out (L : List Tk) (h : ∀ t ∈ L, Good t.1 t.2.1) : scanT 0 [] (outT L) = .ok (backL 0 L ++ [(5, [], (outT L).length)]) := by
  cases L with
  | nil => rw [show outT [] = [] from rfl, scan_nil]; rfl
  | cons t r =>
    rw [outT_cons, (h t (by simp)).cut 0 [] (tailT r) (tailT_gap r), scan_tail r _ _ (fun x hx => h x (by simp [hx]))]
    simp [backL]
theorem backL_len : ∀ (L : List Tk) (p : Nat), (backL p L).length = L.length
  | [], _ => rfl
  | t :: r, p => by simp [backL, backL_len r]
theorem backL_at : ∀ (L : List Tk) (p i : Nat) (t : Tk), L[i]? = some t → ∃ a, (backL p L)[i]? = some (t.1, t.2.1, a) ∧ p ≤ a
  | [], _, _, _, h => by cases h
  | x :: r, p, 0, t, h => by cases h; exact ⟨p, rfl, Nat.le_refl _⟩
  | x :: r, p, i + 1, t, h => by
    obtain ⟨a, h1, h2⟩ := backL_at r (p + (spellL x.1 x.2.1).length + 1) i t h
    exact ⟨a, h1, by omega⟩
/-- where a token stands its text stands -/
theorem backL_text : ∀ (L : List Tk) (pre : List UInt8) (i : Nat) (u : Tk), (backL (pre.length + 1) L)[i]? = some u → ∃ a b, pre ++ tailT L = a ++ (spellL u.1 u.2.1 ++ b) ∧ a.length = u.2.2 ∧ pre.length < u.2.2
  | [], _, _, _, h => by cases h
  | x :: r, pre, 0, u, h => by
    cases h
    exact ⟨pre ++ [32], tailT r, by simp [tailT], by simp, by simp⟩
  | x :: r, pre, i + 1, u, h => by
    have h' : (backL ((pre ++ 32 :: spellL x.1 x.2.1).length + 1) r)[i]? = some u := by
      simp only [backL, List.getElem?_cons_succ] at h
      rw [show (pre ++ 32 :: spellL x.1 x.2.1).length + 1 = pre.length + 1 + (spellL x.1 x.2.1).length + 1 by simp; omega]
      exact h
    obtain ⟨a, b, h1, h2, h3⟩ := backL_text r (pre ++ 32 :: spellL x.1 x.2.1) i u h'
    refine ⟨a, b, ?_, h2, by simp at h3; omega⟩
    rw [← h1]
    simp [tailT]
theorem out_text (L : List Tk) (i : Nat) (u : Tk) (h : (backL 0 L)[i]? = some u) : ∃ a b, outT L = a ++ (spellL u.1 u.2.1 ++ b) ∧ a.length = u.2.2 := by
  cases L with
  | nil => cases h
  | cons t r =>
    cases i with
    | zero => cases h; exact ⟨[], tailT r, by rw [outT_cons]; rfl, rfl⟩
    | succ i =>
      simp only [backL, List.getElem?_cons_succ, Nat.zero_add] at h
      obtain ⟨a, b, h1, h2, _⟩ := backL_text r (spellL t.1 t.2.1) i u h
      exact ⟨a, b, by rw [outT_cons]; exact h1, h2⟩
/-- places go up -/
theorem backL_up : ∀ (L : List Tk) (p i : Nat) (u v : Tk), (backL p L)[i]? = some u → (backL p L)[i + 1]? = some v → u.2.2 < v.2.2
  | [], _, _, _, _, h, _ => by cases h
  | x :: r, p, 0, u, v, h, h2 => by
    cases h
    cases r with
    | nil => cases h2
    | cons y r => cases h2; simp; omega
  | x :: r, p, i + 1, u, v, h, h2 => backL_up r _ i u v h h2
theorem tkCells_at : ∀ (L : List Tk) (i : Nat) (t : Tk), L[i]? = some t → (tkCells L)[i * 3]? = some (.int .i64 t.1) ∧ (tkCells L)[i * 3 + 1]? = some (.string ⟨t.2.1.toArray⟩) ∧ (tkCells L)[i * 3 + 2]? = some (.int .i64 t.2.2)
  | [], _, _, h => by cases h
  | x :: r, 0, t, h => by cases h; exact ⟨rfl, rfl, rfl⟩
  | x :: r, i + 1, t, h => by
    obtain ⟨h1, h2, h3⟩ := tkCells_at r i t h
    have e : ∀ j, (tkCells (x :: r))[(i + 1) * 3 + j]? = (tkCells r)[i * 3 + j]? := fun j => by
      show (tkV x ++ tkCells r)[(i + 1) * 3 + j]? = _
      rw [List.getElem?_append_right (by simp [tkV]; omega)]
      congr 1
      simp [tkV]
      omega
    exact ⟨(e 0).trans h1, (e 1).trans h2, (e 2).trans h3⟩
theorem own_tokAt {w : World} {B : Nat} {v : Value} {L : List Tk} (h : w.ownsRow B 28 3 v L.length (tkCells L)) : ∃ p c, v = .slice p L.length c ∧ TokAt w p (L.map toT) := by
  rcases h.2 with ⟨h1, h2⟩ | ⟨g, cap, cur, h1, _⟩
  · have hL : L = [] := List.eq_nil_of_length_eq_zero h2
    subst hL
    exact ⟨none, 0, h1, fun i hi => absurd hi (by simp)⟩
  · subst h1
    refine ⟨some ⟨g, 0, none⟩, cap, rfl, fun i hi => ?_⟩
    have hi' : i < L.length := by simpa using hi
    obtain ⟨e0, e1, e2⟩ := tkCells_at L i L[i] (List.getElem?_eq_getElem hi')
    have c := fun j u hj => h.cells (g := g) rfl j u hj
    have ea : ∀ j, (⟨g, 0, none⟩ : Addr).add j = ⟨g, j, none⟩ := fun j => by unfold Addr.add; split <;> simp_all
    have c0 := c _ _ e0
    have c1 := c _ _ e1
    have c2 := c _ _ e2
    rw [ea] at c0 c1 c2
    refine ⟨g, 0, rfl, ?_, ?_, ?_⟩
    · simpa [toT] using c0
    · simpa [toT] using c1
    · simpa [toT] using c2
end Go.Proofs.YtdafnkfnaknoiaaDoor
