/- Rows of text: what is written is read back; what is read has cells in each row; where a fault lies: plain facts. -/
import Derived.Test.YtkficmbkoinjjaaDoorJ2
import Derived.Test.YtkficmbkoinjjaaDoorF3
namespace Go.Proofs.YtkficmbkoinjjaaDoor
open Go
set_option maxHeartbeats 2000000
set_option linter.unusedVariables false
set_option linter.unusedSimpArgs false
theorem run_bad : ∀ (l : List UInt8) (R : List (List Cell)) (C : List Cell) (cell : Cell) (st : St) (off : Nat) (E : Int) (a : Nat), (∀ o, st = .quoted o ∨ st = .shut o → o < off) → run l R C cell st off = .bad E a → a < off + l.length ∧ E ≠ 2 ∧ E ≠ 0
  | [], R, C, cell, st, off, E, a, hst, h => by
    cases st with
    | quoted o =>
      simp only [run, Sp.bad.injEq] at h
      obtain ⟨rfl, rfl⟩ := h
      exact ⟨by have := hst o (.inl rfl); simp; omega, by decide, by decide⟩
    | start => simp only [run] at h; split at h <;> cases h
    | plain => simp only [run] at h; cases h
    | shut o => simp only [run] at h; cases h
  | c :: t, R, C, cell, st, off, E, a, hst, h => by
    have hno : ∀ s : St, (s = .start ∨ s = .plain) → ∀ o, s = .quoted o ∨ s = .shut o → o < off + 1 := by
      intro s hs o ho
      rcases hs with rfl | rfl <;> rcases ho with ho | ho <;> cases ho
    have hsame : ∀ o, st = .quoted o ∨ st = .shut o → o < off + 1 := fun o ho => Nat.lt_succ_of_lt (hst o ho)
    have fin : ∀ {R' C' cell' st'}, (∀ o, st' = St.quoted o ∨ st' = .shut o → o < off + 1) → run t R' C' cell' st' (off + 1) = .bad E a → a < off + (c :: t).length ∧ E ≠ 2 ∧ E ≠ 0 := fun hs hr => by
      have := run_bad t _ _ _ _ (off + 1) E a hs hr
      simp only [List.length_cons]
      exact ⟨by omega, this.2⟩
    have here : ∀ {E' : Int}, E' ≠ 2 → E' ≠ 0 → Sp.bad E' off = .bad E a → a < off + (c :: t).length ∧ E ≠ 2 ∧ E ≠ 0 := fun h2 h0 he => by
      simp only [Sp.bad.injEq] at he
      obtain ⟨rfl, rfl⟩ := he
      exact ⟨by simp, h2, h0⟩
    cases st with
    | quoted o =>
      simp only [run] at h
      have ho := hst o (.inl rfl)
      split at h
      · exact fin (by intro o' hh; rcases hh with hh | hh <;> cases hh; omega) h
      · exact fin (by intro o' hh; rcases hh with hh | hh <;> cases hh; omega) h
    | start =>
      simp only [run] at h
      split at h
      · exact fin (hno _ (.inl rfl)) h
      · split at h
        · exact fin (hno _ (.inl rfl)) h
        · split at h
          · split at h
            · exact fin (hno _ (.inl rfl)) h
            · exact here (by decide) (by decide) h
          · split at h
            · exact fin (by intro o' hh; rcases hh with hh | hh <;> cases hh; omega) h
            · exact fin (hno _ (.inr rfl)) h
    | plain =>
      simp only [run] at h
      split at h
      · exact fin (hno _ (.inl rfl)) h
      · split at h
        · exact fin (hno _ (.inl rfl)) h
        · split at h
          · split at h
            · exact fin (hno _ (.inr rfl)) h
            · exact here (by decide) (by decide) h
          · split at h
            · exact here (by decide) (by decide) h
            · exact fin (hno _ (.inr rfl)) h
    | shut o =>
      simp only [run] at h
      have ho := hst o (.inr rfl)
      split at h
      · exact fin (hno _ (.inl rfl)) h
      · split at h
        · exact fin (hno _ (.inl rfl)) h
        · split at h
          · split at h
            · exact fin hsame h
            · exact here (by decide) (by decide) h
          · split at h
            · exact fin (by intro o' hh; rcases hh with hh | hh <;> cases hh; omega) h
            · exact here (by decide) (by decide) h
theorem run_ok : ∀ (l : List UInt8) (R : List (List Cell)) (C : List Cell) (cell : Cell) (st : St) (off : Nat) (rows : List (List Cell)) (B : Nat), (∀ r ∈ R, r ≠ [] ∧ ∀ c ∈ r, c.length ≤ B) → (∀ c ∈ C, c.length ≤ B) → cell.length + l.length ≤ B →
    run l R C cell st off = .ok rows → ∀ r ∈ rows, r ≠ [] ∧ ∀ c ∈ r, c.length ≤ B
  | [], R, C, cell, st, off, rows, B, hR, hC, hl, h => by
    have hone : ∀ r ∈ R ++ [C ++ [cell]], r ≠ [] ∧ ∀ c ∈ r, c.length ≤ B := by
      intro r hr
      rcases List.mem_append.1 hr with hr | hr
      · exact hR r hr
      · simp only [List.mem_singleton] at hr
        subst hr
        refine ⟨by simp, fun c hc => ?_⟩
        rcases List.mem_append.1 hc with hc | hc
        · exact hC c hc
        · simp only [List.mem_singleton] at hc
          subst hc
          simp at hl
          exact hl
    cases st with
    | quoted o => simp only [run] at h; cases h
    | start =>
      simp only [run] at h
      split at h
      · cases h; exact hR
      · cases h; exact hone
    | plain => simp only [run] at h; cases h; exact hone
    | shut o => simp only [run] at h; cases h; exact hone
  | c :: t, R, C, cell, st, off, rows, B, hR, hC, hl, h => by
    simp only [List.length_cons] at hl
    have hC2 : ∀ c ∈ C ++ [cell], c.length ≤ B := fun x hx => by
      rcases List.mem_append.1 hx with hx | hx
      · exact hC x hx
      · simp only [List.mem_singleton] at hx
        subst hx
        omega
    have hR2 : ∀ r ∈ R ++ [C ++ [cell]], r ≠ [] ∧ ∀ c ∈ r, c.length ≤ B := by
      intro r hr
      rcases List.mem_append.1 hr with hr | hr
      · exact hR r hr
      · simp only [List.mem_singleton] at hr
        subst hr
        exact ⟨by simp, hC2⟩
    have f0 : ∀ {st'}, run t R C cell st' (off + 1) = .ok rows → ∀ r ∈ rows, r ≠ [] ∧ ∀ c ∈ r, c.length ≤ B := fun h => run_ok t _ _ _ _ _ rows B hR hC (by omega) h
    have f1 : ∀ {st'} (b : UInt8), run t R C (cell ++ [b]) st' (off + 1) = .ok rows → ∀ r ∈ rows, r ≠ [] ∧ ∀ c ∈ r, c.length ≤ B := fun b h => run_ok t _ _ _ _ _ rows B hR hC (by simp; omega) h
    have f2 : ∀ {st'}, run t R (C ++ [cell]) [] st' (off + 1) = .ok rows → ∀ r ∈ rows, r ≠ [] ∧ ∀ c ∈ r, c.length ≤ B := fun h => run_ok t _ _ _ _ _ rows B hR hC2 (by simp; omega) h
    have f3 : ∀ {st'}, run t (R ++ [C ++ [cell]]) [] [] st' (off + 1) = .ok rows → ∀ r ∈ rows, r ≠ [] ∧ ∀ c ∈ r, c.length ≤ B := fun h => run_ok t _ _ _ _ _ rows B hR2 (by simp) (by simp; omega) h
    have f4 : ∀ {st'}, run t R C [] st' (off + 1) = .ok rows → ∀ r ∈ rows, r ≠ [] ∧ ∀ c ∈ r, c.length ≤ B := fun h => run_ok t _ _ _ _ _ rows B hR hC (by simp; omega) h
    cases st with
    | quoted o =>
      simp only [run] at h
      split at h
      · exact f0 h
      · exact f1 c h
    | start =>
      simp only [run] at h
      split at h
      · exact f2 h
      · split at h
        · exact f3 h
        · split at h
          · split at h
            · exact f0 h
            · cases h
          · split at h
            · exact f4 h
            · exact f1 c h
    | plain =>
      simp only [run] at h
      split at h
      · exact f2 h
      · split at h
        · exact f3 h
        · split at h
          · split at h
            · exact f0 h
            · cases h
          · split at h
            · cases h
            · exact f1 c h
    | shut o =>
      simp only [run] at h
      split at h
      · exact f2 h
      · split at h
        · exact f3 h
        · split at h
          · split at h
            · exact f0 h
            · cases h
          · split at h
            · exact f1 34 h
            · cases h
/-- rows ahead stay ahead; the place at which one begins is told of faults only -/
theorem run_ahead (P : List (List Cell)) : ∀ (l : List UInt8) (R : List (List Cell)) (C : List Cell) (cell : Cell) (st st' : St) (off off' : Nat) (rows : List (List Cell)), stN st = stN st' → run l R C cell st off = .ok rows → run l (P ++ R) C cell st' off' = .ok (P ++ rows)
  | [], R, C, cell, st, st', off, off', rows, hst, h => by
    cases st <;> cases st' <;> simp only [stN] at hst <;> try (exact absurd hst (by decide))
    · simp only [run] at h ⊢
      split at h
      · rename_i hc
        cases h
        rw [if_pos hc]
      · rename_i hc
        cases h
        rw [if_neg hc]
        simp
    · simp only [run] at h ⊢; cases h; simp
    · simp only [run] at h; cases h
    · simp only [run] at h ⊢; cases h; simp
  | c :: t, R, C, cell, st, st', off, off', rows, hst, h => by
    cases st <;> cases st' <;> simp only [stN] at hst <;> try (exact absurd hst (by decide))
    · simp only [run] at h ⊢
      repeat' split at h
      all_goals (simp_all <;> (refine run_ahead P t _ _ _ _ _ _ _ rows ?_ (by assumption); rfl))
    · simp only [run] at h ⊢
      repeat' split at h
      all_goals (simp_all <;> (refine run_ahead P t _ _ _ _ _ _ _ rows ?_ (by assumption); rfl))
    · simp only [run] at h ⊢
      repeat' split at h
      all_goals (simp_all <;> (refine run_ahead P t _ _ _ _ _ _ _ rows ?_ (by assumption); rfl))
    · simp only [run] at h ⊢
      repeat' split at h
      all_goals (simp_all <;> (refine run_ahead P t _ _ _ _ _ _ _ rows ?_ (by assumption); rfl))
theorem run_esc (o : Nat) : ∀ (c rest : List UInt8) (R : List (List Cell)) (C : List Cell) (cell : Cell) (off : Nat), ∃ off', run (esc c ++ rest) R C cell (.quoted o) off = run rest R C (cell ++ c) (.quoted o) off'
  | [], rest, R, C, cell, off => ⟨off, by simp [esc]⟩
  | b :: t, rest, R, C, cell, off => by
    by_cases hb : b = 34
    · subst hb
      obtain ⟨off', h⟩ := run_esc o t rest R C (cell ++ [34]) (off + 1 + 1)
      exact ⟨off', by simp [esc, run, h]⟩
    · obtain ⟨off', h⟩ := run_esc o t rest R C (cell ++ [b]) (off + 1)
      exact ⟨off', by simp [esc, hb, run, h]⟩
/-- behind a cell as it is written -/
theorem run_cell (c rest : List UInt8) (R : List (List Cell)) (C : List Cell) (off : Nat) : ∃ st off', (∀ o, st ≠ .quoted o) ∧ run (cellW c ++ rest) R C [] .start off = run rest R C c st off' := by
  unfold cellW
  split
  · obtain ⟨off', h⟩ := run_esc off c (34 :: rest) R C [] (off + 1)
    refine ⟨.shut off, off' + 1, by simp, ?_⟩
    simp [run, h]
  · rename_i hodd
    cases hc : c with
    | nil => exact ⟨.start, off, by simp, rfl⟩
    | cons b t =>
      rw [← hc]
      refine ⟨.plain, off + c.length, by simp, run_start (by simp [hc]) rest R C off fun b hb => ?_⟩
      cases ho : odd b with
      | false => rfl
      | true => exact absurd (List.any_eq_true.2 ⟨b, hb, ho⟩) hodd
theorem run_comma {st : St} (hst : ∀ o, st ≠ .quoted o) (c rest : List UInt8) (R : List (List Cell)) (C : List Cell) (off : Nat) : run (44 :: rest) R C c st off = run rest R (C ++ [c]) [] .start (off + 1) := by
  cases st with
  | quoted o => exact absurd rfl (hst o)
  | start => simp [run]
  | plain => simp [run]
  | shut o => simp [run]
theorem run_end {st : St} (hst : ∀ o, st ≠ .quoted o) (c rest : List UInt8) (R : List (List Cell)) (C : List Cell) (off : Nat) : run (13 :: 10 :: rest) R C c st off = run rest (R ++ [C ++ [c]]) [] [] .start (off + 1 + 1) := by
  cases st with
  | quoted o => exact absurd rfl (hst o)
  | start => simp [run]
  | plain => simp [run]
  | shut o => simp [run]
theorem run_cells (rest : List UInt8) (R : List (List Cell)) : ∀ (t : List Cell) (c : Cell) (C : List Cell) (off : Nat), ∃ off', run (cellW c ++ ((t.flatMap fun c => 44 :: cellW c) ++ 13 :: 10 :: rest)) R C [] .start off = run rest (R ++ [C ++ c :: t]) [] [] .start off'
  | [], c, C, off => by
    obtain ⟨st, off', hst, h⟩ := run_cell c (13 :: 10 :: rest) R C off
    exact ⟨off' + 1 + 1, by simp [h, run_end hst]⟩
  | d :: t, c, C, off => by
    obtain ⟨st, off', hst, h⟩ := run_cell c (44 :: (cellW d ++ ((t.flatMap fun c => 44 :: cellW c) ++ 13 :: 10 :: rest))) R C off
    obtain ⟨off2, h2⟩ := run_cells rest R t d (C ++ [c]) (off' + 1)
    rw [run_comma hst, h2] at h
    exact ⟨off2, by simpa using h⟩
theorem run_rows (rest : List UInt8) : ∀ (rows R : List (List Cell)) (off : Nat), (∀ r ∈ rows, r ≠ []) → ∃ off', run (joinL rows ++ rest) R [] [] .start off = run rest (R ++ rows) [] [] .start off'
  | [], R, off, _ => ⟨off, by simp [joinL]⟩
  | r :: rows, R, off, h => by
    cases hr : r with
    | nil => exact absurd hr (h r (by simp))
    | cons c t =>
      obtain ⟨off1, h1⟩ := run_cells (joinL rows ++ rest) R t c [] off
      obtain ⟨off2, h2⟩ := run_rows rest rows (R ++ [c :: t]) off1 fun x hx => h x (by simp [hx])
      refine ⟨off2, ?_⟩
      have e : joinL ((c :: t) :: rows) ++ rest = cellW c ++ ((t.flatMap fun c => 44 :: cellW c) ++ 13 :: 10 :: (joinL rows ++ rest)) := by
        simp [joinL, rowW, cellsW]
      rw [e, h1]
      simp only [List.nil_append]
      rw [h2]
      simp
/-- what is written is read as it was -/
theorem split_join {rows : List (List Cell)} (h : ∀ r ∈ rows, r ≠ []) : splitL (joinL rows) = .ok rows := by
  obtain ⟨off, h1⟩ := run_rows [] rows [] 0 h
  rw [List.append_nil] at h1
  unfold splitL
  rw [h1]
  simp [run]
/-- rows behind a whole text are rows more -/
theorem split_more {rows rows2 : List (List Cell)} {more : List UInt8} (h : ∀ r ∈ rows, r ≠ []) (h2 : splitL more = .ok rows2) : splitL (joinL rows ++ more) = .ok (rows ++ rows2) := by
  obtain ⟨off, h1⟩ := run_rows more rows [] 0 h
  unfold splitL at h2 ⊢
  rw [h1]
  have := run_ahead rows more [] [] [] .start .start 0 off rows2 rfl h2
  simpa using this
theorem split_has {l : List UInt8} {rows : List (List Cell)} (h : splitL l = .ok rows) : ∀ r ∈ rows, r ≠ [] ∧ ∀ c ∈ r, c.length ≤ l.length :=
  run_ok l [] [] [] .start 0 rows l.length (by simp) (by simp) (by simp) h
theorem split_fault {l : List UInt8} {E : Int} {a : Nat} (h : splitL l = .bad E a) : a < l.length ∧ E ≠ 2 ∧ E ≠ 0 := by
  have := run_bad l [] [] [] .start 0 E a (by intro o h; rcases h with h | h <;> cases h) h
  simpa using this
/-- bytes or so of a text: no cell needs more -/
def bytesOf (C : List Cell) : Nat := (C.map fun c => 2 * c.length + 4).sum
theorem cells_bytes : ∀ t : List Cell, (t.flatMap fun c => 44 :: cellW c).length + t.length ≤ bytesOf t
  | [] => by simp [bytesOf]
  | c :: t => by
    have h1 := cells_bytes t
    have h2 := cellW_len c
    have h4 : bytesOf (c :: t) = 2 * c.length + 4 + bytesOf t := by simp [bytesOf]
    rw [h4]
    simp only [List.flatMap_cons, List.length_append, List.length_cons]
    omega
theorem row_bytes {C : List Cell} (h : C ≠ []) : (rowW C).length ≤ bytesOf C := by
  cases C with
  | nil => exact absurd rfl h
  | cons c t =>
    have h1 := cells_bytes t
    have h2 := cellW_len c
    have h3 : (cellsW (c :: t)).length = (cellW c).length + (t.flatMap fun c => 44 :: cellW c).length := by simp [cellsW]
    have h4 : bytesOf (c :: t) = 2 * c.length + 4 + bytesOf t := by simp [bytesOf]
    unfold rowW
    rw [List.length_append, h3, h4]
    simp only [List.length_cons, List.length_nil]
    omega
theorem join_bytes : ∀ rows : List (List Cell), (∀ r ∈ rows, r ≠ []) → (joinL rows).length ≤ (rows.map bytesOf).sum
  | [], _ => by simp [joinL]
  | r :: rows, h => by
    have h1 := join_bytes rows fun x hx => h x (by simp [hx])
    have h2 := row_bytes (h r (by simp))
    have h3 : joinL (r :: rows) = rowW r ++ joinL rows := by simp [joinL]
    rw [h3, List.length_append]
    simp
    omega
end Go.Proofs.YtkficmbkoinjjaaDoor
