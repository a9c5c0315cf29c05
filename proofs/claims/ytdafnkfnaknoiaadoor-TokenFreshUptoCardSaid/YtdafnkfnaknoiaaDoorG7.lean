/- Tokens that were scanned back: plain facts. -/
import Derived.Test.YtdafnkfnaknoiaaDoorG6
namespace Go.Proofs.YtdafnkfnaknoiaaDoor
open Go Go.RowKit
set_option maxHeartbeats 1000000
set_option linter.unusedVariables false
set_option linter.unusedSimpArgs false
/-- tokens that were made plain -/
def Made (L : List Tk) : Prop := ∀ t ∈ L, Good t.1 t.2.1 ∧ (t.1 = 1 ∨ t.1 = 2 ∨ t.1 = 3 ∨ t.1 = 4) ∧ t.2.2 = 0
theorem made_snoc {L : List Tk} (h : Made L) {k : Int} {s : ByteArray} (hp : PlainTok k s.data.toList) : Made (L ++ [(k, s.data.toList, 0)]) := by
  intro t ht
  rcases List.mem_append.1 ht with ht | ht
  · exact h t ht
  · simp at ht
    subst ht
    refine ⟨plain_good hp, ?_, rfl⟩
    rcases hp with ⟨rfl, _⟩ | ⟨rfl, _⟩ | ⟨rfl, _⟩ | ⟨rfl, _⟩ <;> simp
theorem tail_len : ∀ (L : List Tk), Made L → (tailT L).length ≤ 803 * L.length
  | [], _ => by simp [tailT]
  | t :: r, h => by
    have h1 := (h t (by simp)).1.len
    have h2 := tail_len r (fun x hx => h x (by simp [hx]))
    have e : tailT (t :: r) = 32 :: (spellL t.1 t.2.1 ++ tailT r) := by simp [tailT]
    rw [e]
    simp only [List.length_cons, List.length_append]
    omega
theorem out_len (L : List Tk) (h : Made L) : (outT L).length ≤ 803 * L.length := by
  cases L with
  | nil => simp [outT, outL]
  | cons t r =>
    rw [outT_cons, List.length_append, List.length_cons]
    have h1 := (h t (by simp)).1.len
    have h2 := tail_len r (fun x hx => h x (by simp [hx]))
    omega
/-- what comes back -/
def cameL (L : List Tk) : List Tk := backL 0 L ++ [(5, [], (outT L).length)]
theorem came_len (L : List Tk) : (cameL L).length = L.length + 1 := by simp [cameL, backL_len]
theorem came_scan (L : List Tk) (h : Made L) (h4 : L.length ≤ 4) : scanL (outT L) = .ok (cameL L) := by
  rw [scanL_small (by have := out_len L h; omega)]
  exact scan_out L fun t ht => (h t ht).1
theorem came_at (L : List Tk) (i : Nat) (t : Tk) (h : L[i]? = some t) : ∃ a, (cameL L)[i]? = some (t.1, t.2.1, a) := by
  obtain ⟨a, h1, _⟩ := backL_at L 0 i t h
  have hi : i < (backL 0 L).length := (List.getElem?_eq_some_iff.1 h1).1
  exact ⟨a, by unfold cameL; rw [List.getElem?_append_left hi]; exact h1⟩
theorem came_end (L : List Tk) : (cameL L)[L.length]? = some (5, [], (outT L).length) := by
  unfold cameL
  rw [List.getElem?_append_right (by rw [backL_len]; exact Nat.le_refl _), backL_len]
  simp
/-- what the law asks of one of them -/
structure Stands (out : List UInt8) (k : Int) (s : List UInt8) (a : Nat) : Prop where
  kind : k = 1 ∨ k = 2 ∨ k = 3 ∨ k = 4 ∨ k = 5
  le : a ≤ out.length
  text : k = 1 ∨ k = 2 ∨ k = 4 → a + s.length ≤ out.length ∧ (out.drop a).take s.length = s
theorem came_stands (L : List Tk) (h : Made L) (i : Nat) (hi : i < L.length + 1) : ∃ k s a, (cameL L)[i]? = some (k, s, a) ∧ Stands (outT L) k s a := by
  by_cases hl : i < L.length
  · have hLi : L[i]? = some L[i] := List.getElem?_eq_getElem hl
    obtain ⟨a, ha⟩ := came_at L i L[i] hLi
    have hb : (backL 0 L)[i]? = some (L[i].1, L[i].2.1, a) := by
      have := ha
      unfold cameL at this
      rw [List.getElem?_append_left (by rw [backL_len]; exact hl)] at this
      exact this
    obtain ⟨x, y, h1, h2⟩ := out_text L i _ hb
    obtain ⟨hg, hk, _⟩ := h L[i] (List.getElem_mem hl)
    simp only at h1 h2
    refine ⟨_, _, a, ha, ⟨by rcases hk with h | h | h | h <;> simp [h], by rw [h1, List.length_append]; omega, fun hk2 => ?_⟩⟩
    have e : spellL L[i].1 L[i].2.1 = L[i].2.1 := by
      unfold spellL
      rw [if_neg (by rcases hk2 with h | h | h <;> rw [h] <;> decide)]
    rw [e] at h1
    rw [h1]
    refine ⟨by simp only [List.length_append]; omega, ?_⟩
    rw [List.drop_append_of_le_length (by omega), ← h2]
    simp
  · have he : i = L.length := by omega
    subst he
    exact ⟨5, [], _, came_end L, ⟨by simp, Nat.le_refl _, fun hk => by rcases hk with h | h | h <;> cases h⟩⟩
theorem came_up (L : List Tk) (h : Made L) (i : Nat) (u v : Tk) (h1 : (cameL L)[i]? = some u) (h2 : (cameL L)[i + 1]? = some v) : u.2.2 < v.2.2 := by
  have hi2 : i + 1 < (cameL L).length := (List.getElem?_eq_some_iff.1 h2).1
  rw [came_len] at hi2
  have hb : (backL 0 L)[i]? = some u := by
    unfold cameL at h1
    rw [List.getElem?_append_left (by rw [backL_len]; omega)] at h1
    exact h1
  by_cases hl : i + 1 < L.length
  · unfold cameL at h2
    rw [List.getElem?_append_left (by rw [backL_len]; exact hl)] at h2
    exact backL_up L 0 i u v hb h2
  · have he : i + 1 = L.length := by omega
    rw [he, came_end] at h2
    cases h2
    obtain ⟨x, y, e1, e2⟩ := out_text L i u hb
    have hm : ∃ t, t ∈ L ∧ u.1 = t.1 ∧ u.2.1 = t.2.1 := by
      have hLi : L[i]? = some (L[i]'(by omega)) := List.getElem?_eq_getElem (by omega)
      obtain ⟨a, h3, _⟩ := backL_at L 0 i _ hLi
      rw [hb] at h3
      have h4 := Option.some.inj h3
      exact ⟨L[i]'(by omega), List.getElem_mem (by omega), by rw [h4], by rw [h4]⟩
    obtain ⟨t, ht, q1, q2⟩ := hm
    have := (h t ht).1.pos
    rw [← q1, ← q2] at this
    rw [e1]
    simp only [List.length_append]
    omega
/-- Lie as TokAt -/
theorem lie_tokAt {w : World} {g : Nat} {L : List Tk} (h : ∀ (i : Nat) (v : Value), (tkCells L)[i]? = some v → w.cell? ⟨g, i, none⟩ = some v) : TokAt w (some ⟨g, 0, none⟩) (L.map toT) := by
  intro i hi
  have hi' : i < L.length := by simpa using hi
  obtain ⟨e0, e1, e2⟩ := tkCells_at L i L[i] (List.getElem?_eq_getElem hi')
  refine ⟨g, 0, rfl, ?_, ?_, ?_⟩
  · simpa [toT] using h _ _ e0
  · simpa [toT] using h _ _ e1
  · simpa [toT] using h _ _ e2
end Go.Proofs.YtdafnkfnaknoiaaDoor
