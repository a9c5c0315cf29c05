/- Rows of text, byte by byte: plain facts. -/
import Derived.Lib.IndexAny
namespace Go.Proofs.YtkficmbkoinjjaaGreatDoor
open Go
set_option maxHeartbeats 1000000
set_option linter.unusedVariables false
set_option linter.unusedSimpArgs false
abbrev Cell := List UInt8
/-- what a text is read as: a fault at its place, or rows -/
inductive Sp where
  | bad (E : Int) (at_ : Nat)
  | ok (rows : List (List Cell))
/-- where in a cell the reading stands -/
inductive St where
  | start
  | plain
  | quoted (o : Nat)
  | shut (o : Nat)
/-- the reading of what is left: behind rows, behind cells of a row, behind bytes of a cell -/
def run : List UInt8 → List (List Cell) → List Cell → Cell → St → Nat → Sp
  | [], R, C, cell, st, _ => match st with
    | .quoted o => .bad 40 o
    | .start => if C = [] then .ok R else .ok (R ++ [C ++ [cell]])
    | _ => .ok (R ++ [C ++ [cell]])
  | c :: t, R, C, cell, st, off => match st with
    | .quoted o => if c = 34 then run t R C cell (.shut o) (off + 1) else run t R C (cell ++ [c]) (.quoted o) (off + 1)
    | .start => if c = 44 then run t R (C ++ [cell]) [] .start (off + 1) else if c = 10 then run t (R ++ [C ++ [cell]]) [] [] .start (off + 1)
      else if c = 13 then (if t.head? = some 10 then run t R C cell .start (off + 1) else .bad 41 off)
      else if c = 34 then run t R C [] (.quoted off) (off + 1) else run t R C (cell ++ [c]) .plain (off + 1)
    | .plain => if c = 44 then run t R (C ++ [cell]) [] .start (off + 1) else if c = 10 then run t (R ++ [C ++ [cell]]) [] [] .start (off + 1)
      else if c = 13 then (if t.head? = some 10 then run t R C cell .plain (off + 1) else .bad 41 off)
      else if c = 34 then .bad 40 off else run t R C (cell ++ [c]) .plain (off + 1)
    | .shut o => if c = 44 then run t R (C ++ [cell]) [] .start (off + 1) else if c = 10 then run t (R ++ [C ++ [cell]]) [] [] .start (off + 1)
      else if c = 13 then (if t.head? = some 10 then run t R C cell (.shut o) (off + 1) else .bad 41 off)
      else if c = 34 then run t R C (cell ++ [34]) (.quoted o) (off + 1) else .bad 40 off
/-- a text's rows -/
def splitL (l : List UInt8) : Sp := run l [] [] [] .start 0
/-- one of the four bytes that a plain cell has none of? -/
def odd (b : UInt8) : Bool := ([44, 34, 13, 10] : List UInt8).contains b
theorem odd_ne {b : UInt8} (h : odd b = false) : b ≠ 44 ∧ b ≠ 34 ∧ b ≠ 13 ∧ b ≠ 10 := by
  unfold odd at h
  simp at h
  exact h
theorem odd_eq {b : UInt8} (h : odd b = true) : b = 44 ∨ b = 34 ∨ b = 13 ∨ b = 10 := by
  unfold odd at h
  simpa using h
theorem run_plain : ∀ (p rest : List UInt8) (R : List (List Cell)) (C : List Cell) (cell : Cell) (off : Nat), (∀ b ∈ p, odd b = false) → run (p ++ rest) R C cell .plain off = run rest R C (cell ++ p) .plain (off + p.length)
  | [], rest, R, C, cell, off, _ => by simp
  | b :: p, rest, R, C, cell, off, h => by
    obtain ⟨h1, h2, h3, h4⟩ := odd_ne (h b (by simp))
    have ih := run_plain p rest R C (cell ++ [b]) (off + 1) fun x hx => h x (by simp [hx])
    rw [List.cons_append]
    simp only [run, if_neg h1, if_neg h2, if_neg h3, if_neg h4]
    rw [ih]
    simp [Nat.add_comm, Nat.add_left_comm]
theorem run_start {p : List UInt8} (hp : p ≠ []) (rest : List UInt8) (R : List (List Cell)) (C : List Cell) (off : Nat) (h : ∀ b ∈ p, odd b = false) : run (p ++ rest) R C [] .start off = run rest R C p .plain (off + p.length) := by
  cases p with
  | nil => exact absurd rfl hp
  | cons b p =>
    obtain ⟨h1, h2, h3, h4⟩ := odd_ne (h b (by simp))
    rw [List.cons_append]
    simp only [run, if_neg h1, if_neg h2, if_neg h3, if_neg h4]
    rw [List.nil_append, run_plain p rest R C [b] (off + 1) fun x hx => h x (by simp [hx])]
    simp [Nat.add_comm, Nat.add_left_comm]
/-- how many bytes stand ahead of the first odd one -/
def plen : List UInt8 → Nat
  | [] => 0
  | b :: t => if odd b then 0 else plen t + 1
theorem plen_le : ∀ l, plen l ≤ l.length
  | [] => Nat.le_refl _
  | b :: t => by
    unfold plen
    have := plen_le t
    split
    · omega
    · simp; omega
theorem plen_take : ∀ l : List UInt8, ∀ b ∈ l.take (plen l), odd b = false
  | [] => by simp
  | b :: t => by
    intro x hx
    unfold plen at hx
    split at hx
    · simp at hx
    · rename_i hb
      rw [List.take_succ_cons] at hx
      rcases List.mem_cons.1 hx with rfl | hx
      · simpa using hb
      · exact plen_take t x hx
theorem plen_drop : ∀ (l : List UInt8) b t, l.drop (plen l) = b :: t → odd b = true
  | [], b, t, h => by simp at h
  | x :: l, b, t, h => by
    unfold plen at h
    split at h
    · rename_i hx
      simp at h
      rw [← h.1]; exact hx
    · rw [List.drop_succ_cons] at h
      exact plen_drop l b t h
theorem plen_index : ∀ l, (Lib.indexAny l [44, 34, 13, 10] < 0 ∧ plen l = l.length) ∨ (0 ≤ Lib.indexAny l [44, 34, 13, 10] ∧ Lib.indexAny l [44, 34, 13, 10] = plen l)
  | [] => .inl ⟨by decide, rfl⟩
  | b :: l => by
    have ih := plen_index l
    unfold Lib.indexAny plen odd
    by_cases hb : ([44, 34, 13, 10] : List UInt8).contains b = true
    · rw [if_pos hb, if_pos hb]
      exact .inr ⟨Int.le_refl _, rfl⟩
    · rw [if_neg hb, if_neg hb]
      rcases ih with ⟨h1, h2⟩ | ⟨h1, h2⟩
      · have h3 := Lib.indexAny_ge [44, 34, 13, 10] l
        rw [if_pos (by simp; omega)]
        exact .inl ⟨by decide, by simp [h2]⟩
      · rw [if_neg (by simp; omega)]
        exact .inr ⟨by omega, by rw [h2]; rfl⟩
/-- behind a cell: what the row's end is -/
theorem run_any_of_end {rest : List UInt8} {R : List (List Cell)} {C : List Cell} {cell : Cell} {off : Nat} (st : St) (hst : st = .plain ∨ (∃ o, st = .shut o) ∨ (st = .start ∧ rest ≠ [] ∨ st = .start ∧ C ≠ [])) :
    (rest = [] → run rest R C cell st off = .ok (R ++ [C ++ [cell]])) ∧ (∀ t, rest = 10 :: t → run rest R C cell st off = run t (R ++ [C ++ [cell]]) [] [] .start (off + 1)) ∧ (∀ t, rest = 13 :: 10 :: t → run rest R C cell st off = run t (R ++ [C ++ [cell]]) [] [] .start (off + 2)) ∧
    (∀ t, rest = 13 :: t → t.head? ≠ some 10 → run rest R C cell st off = .bad 41 off) ∧ (∀ t, rest = 44 :: t → run rest R C cell st off = run t R (C ++ [cell]) [] .start (off + 1)) := by
  rcases hst with rfl | ⟨o, rfl⟩ | ⟨rfl, h⟩ | ⟨rfl, h⟩
  · refine ⟨?_, ?_, ?_, ?_, ?_⟩
    · rintro rfl; rfl
    · rintro t rfl; simp [run]
    · rintro t rfl; simp [run]
    · rintro t rfl h; simp [run, h]
    · rintro t rfl; simp [run]
  · refine ⟨?_, ?_, ?_, ?_, ?_⟩
    · rintro rfl; rfl
    · rintro t rfl; simp [run]
    · rintro t rfl; simp [run]
    · rintro t rfl h; simp [run, h]
    · rintro t rfl; simp [run]
  · refine ⟨?_, ?_, ?_, ?_, ?_⟩
    · intro h2; exact absurd h2 h
    · rintro t rfl; simp [run]
    · rintro t rfl; simp [run]
    · rintro t rfl h; simp [run, h]
    · rintro t rfl; simp [run]
  · refine ⟨?_, ?_, ?_, ?_, ?_⟩
    · rintro rfl; simp [run, h]
    · rintro t rfl; simp [run]
    · rintro t rfl; simp [run]
    · rintro t rfl h; simp [run, h]
    · rintro t rfl; simp [run]
end Go.Proofs.YtkficmbkoinjjaaGreatDoor
