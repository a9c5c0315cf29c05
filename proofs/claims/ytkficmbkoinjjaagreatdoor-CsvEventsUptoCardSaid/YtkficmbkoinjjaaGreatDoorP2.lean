/- Rows of text: plain facts on a row that is being read. -/
import Derived.Test.YtkficmbkoinjjaaGreatDoorP1
import Derived.Test.YtkficmbkoinjjaaGreatDoorC2
namespace Go.Proofs.YtkficmbkoinjjaaGreatDoor
open Go
set_option maxHeartbeats 1000000
set_option linter.unusedVariables false
set_option linter.unusedSimpArgs false
/-- behind cells of a row, at the beginning of one more -/
def RowS (l : List UInt8) (a0 : Nat) (C : List Cell) (a : Nat) : Prop := ∀ RR, run (l.drop a0) RR [] [] .start a0 = run (l.drop a) RR C [] .start a
/-- somewhere in a cell -/
def RowX (l : List UInt8) (a0 : Nat) (C : List Cell) (q : Cell) (st : St) (a : Nat) : Prop := ∀ RR, run (l.drop a0) RR [] [] .start a0 = run (l.drop a) RR C q st a
/-- behind the last cell of a row -/
def RowE (l : List UInt8) (a0 : Nat) (C : List Cell) (a : Nat) : Prop := ∀ RR, run (l.drop a0) RR [] [] .start a0 = if (endF (l.drop a)).1 = 0 then run (l.drop (a + (endF (l.drop a)).2)) (RR ++ [C]) [] [] .start (a + (endF (l.drop a)).2) else .bad (endF (l.drop a)).1 a
/-- a row is read, or its fault found -/
def RowIs (l : List UInt8) (a0 : Nat) (C : List Cell) (a : Nat) (f : Int) : Prop := (f = 0 ∧ C ≠ [] ∧ ∀ RR, run (l.drop a0) RR [] [] .start a0 = run (l.drop a) (RR ++ [C]) [] [] .start a) ∨ (f ≠ 0 ∧ ∀ RR, run (l.drop a0) RR [] [] .start a0 = .bad f a)
theorem RowS.begin (l : List UInt8) (a0 : Nat) : RowS l a0 [] a0 := fun RR => rfl
theorem endF_cases (b : UInt8) (t : List UInt8) : (b = 10 ∧ endF (b :: t) = (0, 1)) ∨ (b = 13 ∧ t.head? = some 10 ∧ endF (b :: t) = (0, 2)) ∨ (b = 13 ∧ t.head? ≠ some 10 ∧ endF (b :: t) = (41, 0)) ∨ (b ≠ 10 ∧ b ≠ 13 ∧ endF (b :: t) = (40, 0)) := by
  by_cases h1 : b = 10
  · exact .inl ⟨h1, by simp [endF, h1]⟩
  · by_cases h2 : b = 13
    · by_cases h3 : t.head? = some 10
      · exact .inr (.inl ⟨h2, h3, by simp [endF, h2, h3]⟩)
      · exact .inr (.inr (.inl ⟨h2, h3, by simp [endF, h2, h3]⟩))
    · exact .inr (.inr (.inr ⟨h1, h2, by simp [endF, h1, h2]⟩))
theorem drop_head {l : List UInt8} {a : Nat} {b : UInt8} {t : List UInt8} (h : l.drop a = b :: t) : t = l.drop (a + 1) ∧ a < l.length := by
  have hlt : a < l.length := by
    rcases Nat.lt_or_ge a l.length with h2 | h2
    · exact h2
    · rw [List.drop_eq_nil_of_le h2] at h; cases h
  rw [List.drop_eq_getElem_cons hlt] at h
  exact ⟨(List.cons.inj h).2.symm, hlt⟩
/-- a cell has ended -/
theorem close_any {l : List UInt8} {a0 a : Nat} {C : List Cell} {q : Cell} {st : St} (h : RowX l a0 C q st a) (hst : (st = .plain ∧ ∀ b t, l.drop a = b :: t → odd b = true) ∨ ((∃ o, st = .shut o) ∧ (l.drop a).head? ≠ some 34) ∨ (st = .start ∧ (l.drop a ≠ [] ∨ C ≠ []) ∧ (l.drop a).head? ≠ some 34 ∧ ∀ b t, l.drop a = b :: t → odd b = true)) :
    ((l.drop a).head? = some 44 → RowS l a0 (C ++ [q]) (a + 1)) ∧ ((l.drop a).head? ≠ some 44 → RowE l a0 (C ++ [q]) a) := by
  have hend : ∀ RR, _ := fun RR => run_any_of_end (rest := l.drop a) (R := RR) (C := C) (cell := q) (off := a) st (by
    rcases hst with ⟨e, _⟩ | ⟨⟨o, e⟩, _⟩ | ⟨e, h1 | h1, _⟩
    · exact .inl e
    · exact .inr (.inl ⟨o, e⟩)
    · exact .inr (.inr (.inl ⟨e, h1⟩))
    · exact .inr (.inr (.inr ⟨e, h1⟩)))
  constructor
  · intro h44 RR
    cases hm : l.drop a with
    | nil => rw [hm] at h44; cases h44
    | cons b t =>
      rw [hm] at h44
      simp only [List.head?_cons, Option.some.injEq] at h44
      subst h44
      rw [h RR, (hend RR).2.2.2.2 t hm, (drop_head hm).1]
  · intro h44 RR
    rw [h RR]
    obtain ⟨e1, e2, e3, e4, _⟩ := hend RR
    cases hm : l.drop a with
    | nil =>
      rw [hm] at e1
      rw [e1 rfl]
      have hd : l.drop a = [] := hm
      simp [endF, hm, run]
    | cons b t =>
      rw [hm] at h44 e1 e2 e3 e4
      simp only [List.head?_cons, ne_eq, Option.some.injEq] at h44
      by_cases h10 : b = 10
      · subst h10
        rw [e2 t rfl]
        have ht := (drop_head hm).1
        simp only [endF, if_true, hm]
        rw [ht]
      · by_cases h13 : b = 13
        · subst h13
          cases t with
          | nil =>
            rw [e4 [] rfl (by simp)]
            simp [endF]
          | cons b2 t2 =>
            by_cases hb2 : b2 = 10
            · subst hb2
              rw [e3 t2 rfl]
              have ht := (drop_head hm).1
              have ht2 := (drop_head ht.symm).1
              have hE : endF (13 :: 10 :: t2) = (0, 2) := by simp [endF]
              rw [hE, if_pos rfl, ht2]
              rfl
            · rw [e4 (b2 :: t2) rfl (by simp [hb2])]
              simp [endF, hb2]
        · have hE : endF (b :: t) = (40, 0) := by simp [endF, h10, h13]
          rw [hE]
          rw [if_neg (by decide)]
          rcases hst with ⟨rfl, ho⟩ | ⟨⟨o, rfl⟩, ho⟩ | ⟨rfl, _, ho, hodd⟩
          · have := odd_eq (ho b t hm)
            rcases this with e | e | e | e
            · exact absurd e h44
            · subst e; simp [run]
            · exact absurd e h13
            · exact absurd e h10
          · rw [hm] at ho
            simp only [List.head?_cons, ne_eq, Option.some.injEq] at ho
            simp [run, h44, h10, h13, ho]
          · rw [hm] at ho
            simp only [List.head?_cons, ne_eq, Option.some.injEq] at ho
            have := odd_eq (hodd b t hm)
            rcases this with e | e | e | e
            · exact absurd e h44
            · exact absurd e ho
            · exact absurd e h13
            · exact absurd e h10
/-- a plain cell -/
theorem plain_cell {l : List UInt8} {a0 a : Nat} {C : List Cell} (h : RowS l a0 C a) (hne : l.drop a ≠ [] ∨ C ≠ []) (h34 : (l.drop a).head? ≠ some 34) :
    ((l.drop (a + plen (l.drop a))).head? = some 44 → RowS l a0 (C ++ [(l.drop a).take (plen (l.drop a))]) (a + plen (l.drop a) + 1)) ∧ ((l.drop (a + plen (l.drop a))).head? ≠ some 44 → RowE l a0 (C ++ [(l.drop a).take (plen (l.drop a))]) (a + plen (l.drop a))) := by
  have hd : l.drop (a + plen (l.drop a)) = (l.drop a).drop (plen (l.drop a)) := by rw [List.drop_drop]
  by_cases hp : plen (l.drop a) = 0
  · rw [hp, Nat.add_zero, List.take_zero]
    exact close_any h (.inr (.inr ⟨rfl, hne, h34, fun b t hb => plen_drop _ b t (by rw [hp, List.drop_zero]; exact hb)⟩))
  · have hx : RowX l a0 C ((l.drop a).take (plen (l.drop a))) .plain (a + plen (l.drop a)) := fun RR => by
      rw [h RR]
      have hsplit := List.take_append_drop (plen (l.drop a)) (l.drop a)
      have hle := plen_le (l.drop a)
      conv => lhs; rw [← hsplit]
      rw [run_start (by intro e; have := congrArg List.length e; rw [List.length_take] at this; simp only [List.length_nil] at this; omega) _ _ _ _ (plen_take _), hd]
      congr 1
      rw [List.length_take, Nat.min_eq_left hle]
    exact close_any hx (.inl ⟨rfl, fun b t hb => plen_drop _ b t (by rw [← hd]; exact hb)⟩)
theorem open_quoted {l : List UInt8} {a0 a : Nat} {C : List Cell} (h : RowS l a0 C a) (h34 : (l.drop a).head? = some 34) : RowX l a0 C [] (.quoted a) (a + 1) := fun RR => by
  rw [h RR]
  cases hm : l.drop a with
  | nil => rw [hm] at h34; cases h34
  | cons b t =>
    rw [hm] at h34
    simp only [List.head?_cons, Option.some.injEq] at h34
    subst h34
    rw [← (drop_head hm).1]
    simp [run]
theorem quoted_byte {l : List UInt8} {a0 a o : Nat} {C : List Cell} {q : Cell} {b : UInt8} (h : RowX l a0 C q (.quoted o) a) (hb : (l.drop a).head? = some b) (hne : b ≠ 34) : RowX l a0 C (q ++ [b]) (.quoted o) (a + 1) := fun RR => by
  rw [h RR]
  cases hm : l.drop a with
  | nil => rw [hm] at hb; cases hb
  | cons c t =>
    rw [hm] at hb
    simp only [List.head?_cons, Option.some.injEq] at hb
    subst hb
    rw [← (drop_head hm).1]
    simp [run, hne]
theorem quoted_shut {l : List UInt8} {a0 a o : Nat} {C : List Cell} {q : Cell} (h : RowX l a0 C q (.quoted o) a) (hb : (l.drop a).head? = some 34) : RowX l a0 C q (.shut o) (a + 1) := fun RR => by
  rw [h RR]
  cases hm : l.drop a with
  | nil => rw [hm] at hb; cases hb
  | cons c t =>
    rw [hm] at hb
    simp only [List.head?_cons, Option.some.injEq] at hb
    subst hb
    rw [← (drop_head hm).1]
    simp [run]
theorem shut_twice {l : List UInt8} {a0 a o : Nat} {C : List Cell} {q : Cell} (h : RowX l a0 C q (.shut o) a) (hb : (l.drop a).head? = some 34) : RowX l a0 C (q ++ [34]) (.quoted o) (a + 1) := fun RR => by
  rw [h RR]
  cases hm : l.drop a with
  | nil => rw [hm] at hb; cases hb
  | cons c t =>
    rw [hm] at hb
    simp only [List.head?_cons, Option.some.injEq] at hb
    subst hb
    rw [← (drop_head hm).1]
    simp [run]
/-- a quoted cell that does not end -/
theorem quoted_open {l : List UInt8} {a0 a o : Nat} {C : List Cell} {q : Cell} (h : RowX l a0 C q (.quoted o) a) (hb : l.drop a = []) (ho : (l.drop o).head? = some 34) (C2 : List Cell) : RowE l a0 C2 o := fun RR => by
  rw [h RR, hb]
  cases hm : l.drop o with
  | nil => rw [hm] at ho; cases ho
  | cons c t =>
    rw [hm] at ho
    simp only [List.head?_cons, Option.some.injEq] at ho
    subst ho
    simp [run, endF]
theorem row_done {l : List UInt8} {a0 a : Nat} {C : List Cell} (h : RowE l a0 C a) (hC : C ≠ [] ∨ (endF (l.drop a)).1 ≠ 0) : RowIs l a0 C (a + (endF (l.drop a)).2) (endF (l.drop a)).1 := by
  by_cases hf : (endF (l.drop a)).1 = 0
  · refine .inl ⟨hf, hC.resolve_right (fun h => h hf), fun RR => ?_⟩
    rw [h RR, if_pos hf]
  · refine .inr ⟨hf, fun RR => ?_⟩
    rw [h RR, if_neg hf]
    have : (endF (l.drop a)).2 = 0 := by
      cases hm : l.drop a with
      | nil => rfl
      | cons b t =>
        rw [hm] at hf
        rcases endF_cases b t with ⟨_, e⟩ | ⟨_, _, e⟩ | ⟨_, _, e⟩ | ⟨_, _, e⟩ <;> rw [e] at hf ⊢ <;> simp at hf
    rw [this, Nat.add_zero]
theorem endF_pos {m : List UInt8} (hm : m ≠ []) (hf : (endF m).1 = 0) : 1 ≤ (endF m).2 := by
  cases m with
  | nil => exact absurd rfl hm
  | cons b t => rcases endF_cases b t with ⟨_, e⟩ | ⟨_, _, e⟩ | ⟨_, _, e⟩ | ⟨_, _, e⟩ <;> rw [e] at hf ⊢ <;> simp at hf ⊢
theorem endF_le {l : List UInt8} {a : Nat} (ha : a ≤ l.length) : a + (endF (l.drop a)).2 ≤ l.length := by
  have hl : (l.drop a).length = l.length - a := List.length_drop
  cases hm : l.drop a with
  | nil => simp [endF]; exact ha
  | cons b t =>
    have h1 := (drop_head hm).2
    rw [hm, List.length_cons] at hl
    rcases endF_cases b t with ⟨_, e⟩ | ⟨_, h3, e⟩ | ⟨_, _, e⟩ | ⟨_, _, e⟩ <;> rw [e]
    · simp only; omega
    · have h4 : t ≠ [] := by intro e2; rw [e2] at h3; cases h3
      have := List.length_pos_iff.2 h4
      simp only
      omega
    · simp only; omega
    · simp only; omega
end Go.Proofs.YtkficmbkoinjjaaGreatDoor
