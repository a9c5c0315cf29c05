/- Contracts of package schema's kindOf, ofLanguage, Name, attrName, isKind. -/
import Derived.Test.YtlinpkmfjkcoiaaDoorA1
namespace Go.Proofs.YtlinpkmfjkcoiaaDoor
open Go Go.RowKit
set_option maxHeartbeats 1000000
set_option linter.unusedVariables false
set_option linter.unusedSimpArgs false
/-- the table of the kinds' words lies there -/
structure Kw (w : World) : Prop where
  lt : 0 < w.heap.size
  c0 : w.cell? ⟨0, 0, none⟩ = some (.string ⟨#[]⟩)
  c1 : w.cell? ⟨0, 1, none⟩ = some (.string ⟨#[73, 78, 84]⟩)
  c2 : w.cell? ⟨0, 2, none⟩ = some (.string ⟨#[83, 84, 82]⟩)
  c3 : w.cell? ⟨0, 3, none⟩ = some (.string ⟨#[66, 79, 79, 76]⟩)
theorem Kw.below {w w' : World} (h : Kw w) (hb : Below w.heap.size w w') : Kw w' := by
  have hc := (bcell hb).1 0
  exact ⟨Nat.lt_of_lt_of_le h.lt hb.size, (hc 0 h.lt).trans h.c0, (hc 1 h.lt).trans h.c1, (hc 2 h.lt).trans h.c2, (hc 3 h.lt).trans h.c3⟩
/-- the kind that a word stands for, or 0 -/
def kindN (l : List UInt8) : Int := if l = [73, 78, 84] then 1 else if l = [83, 84, 82] then 2 else if l = [66, 79, 79, 76] then 3 else 0
theorem idx0 (w : World) : (Instr.index 129 (.agg #[.string ⟨#[]⟩, .string ⟨#[73, 78, 84]⟩, .string ⟨#[83, 84, 82]⟩, .string ⟨#[66, 79, 79, 76]⟩]) (.int .i64 0)).run Tryd.prog w = .ok (.string ⟨#[]⟩) w := by kernel_rfl
theorem idx1 (w : World) : (Instr.index 129 (.agg #[.string ⟨#[]⟩, .string ⟨#[73, 78, 84]⟩, .string ⟨#[83, 84, 82]⟩, .string ⟨#[66, 79, 79, 76]⟩]) (.int .i64 1)).run Tryd.prog w = .ok (.string ⟨#[73, 78, 84]⟩) w := by kernel_rfl
theorem idx2 (w : World) : (Instr.index 129 (.agg #[.string ⟨#[]⟩, .string ⟨#[73, 78, 84]⟩, .string ⟨#[83, 84, 82]⟩, .string ⟨#[66, 79, 79, 76]⟩]) (.int .i64 2)).run Tryd.prog w = .ok (.string ⟨#[83, 84, 82]⟩) w := by kernel_rfl
theorem idx3 (w : World) : (Instr.index 129 (.agg #[.string ⟨#[]⟩, .string ⟨#[73, 78, 84]⟩, .string ⟨#[83, 84, 82]⟩, .string ⟨#[66, 79, 79, 76]⟩]) (.int .i64 3)).run Tryd.prog w = .ok (.string ⟨#[66, 79, 79, 76]⟩) w := by kernel_rfl
attribute [local go_sem ↓] idx0 idx1 idx2 idx3
set_option maxRecDepth 100000 in
theorem kindOf_any (s : ByteArray) (w : World) (h : Kw w) : Calls Tryd.prog 97 #[.string s] w fun e w' => e = .returned (.int .i64 (kindN s.toList)) ∧ w' = w := by
  obtain ⟨_, c0, c1, c2, c3⟩ := h
  obtain ⟨l, hl⟩ : ∃ l, l = s.toList := ⟨_, rfl⟩
  have HL := Lib.hid hl
  clear hl
  go_enter Tryd.func97, Tryd.ntmps97
  go_wp2
  go_loopw [6] (fun i wr => ∃ k : Int, (k = 0 ∨ k = 1 ∨ k = 2 ∨ k = 3 ∨ k = 4) ∧ i = .int .i64 k ∧ wr = w ∧ (1 ≤ k → s.toList ≠ []) ∧ (2 ≤ k → s.toList ≠ [73, 78, 84]) ∧ (3 ≤ k → s.toList ≠ [83, 84, 82]) ∧ (4 ≤ k → s.toList ≠ [66, 79, 79, 76])) (fun i _ => 4 - (intOf i).toNat)
  case atStart => exact ⟨0, .inl rfl, rfl, rfl, by omega, by omega, by omega, by omega⟩
  case round =>
    obtain ⟨k, hk, rfl, rfl, n0, n1, n2, n3⟩ := hrel
    have N0 := Lib.hid n0
    have N1 := Lib.hid n1
    have N2 := Lib.hid n2
    have N3 := Lib.hid n3
    clear n0 n1 n2 n3
    rcases hk with rfl | rfl | rfl | rfl | rfl
    · by_cases he : s.toList = []
      · have hq : ([] == s.toList) = true := by rw [he]; rfl
        have HE := Lib.hid he
        clear he
        go_wp2
        go_ret
        refine ⟨?_, by first | rfl | trivial⟩
        have : kindN s.toList = 0 := by unfold kindN; rw [HE.out]; rfl
        rw [this]
        rfl
      · have hq : ([] == s.toList) = false := by
          cases hx : ([] == s.toList)
          · rfl
          · exact absurd (beq_iff_eq.1 hx).symm he
        have HE := Lib.hid he
        clear he
        go_wp2
        go_roundw
        case rel => exact ⟨1, by omega, by first | rfl | go_num, by first | rfl | trivial, fun _ => HE.out, by omega, by omega, by omega⟩
        case measure => simp [intOf]
    · by_cases he : s.toList = [73, 78, 84]
      · have hq : ([73, 78, 84] == s.toList) = true := by rw [he]; rfl
        have HE := Lib.hid he
        clear he
        go_wp2
        go_ret
        refine ⟨?_, by first | rfl | trivial⟩
        have : kindN s.toList = 1 := by unfold kindN; rw [if_pos HE.out]
        rw [this]
        rfl
      · have hq : ([73, 78, 84] == s.toList) = false := by
          cases hx : ([73, 78, 84] == s.toList)
          · rfl
          · exact absurd (beq_iff_eq.1 hx).symm he
        have HE := Lib.hid he
        clear he
        go_wp2
        go_roundw
        case rel => exact ⟨2, by omega, by first | rfl | go_num, by first | rfl | trivial, fun _ => N0.out (by omega), fun _ => HE.out, by omega, by omega⟩
        case measure => simp [intOf]
    · by_cases he : s.toList = [83, 84, 82]
      · have hq : ([83, 84, 82] == s.toList) = true := by rw [he]; rfl
        have HE := Lib.hid he
        clear he
        go_wp2
        go_ret
        refine ⟨?_, by first | rfl | trivial⟩
        have : kindN s.toList = 2 := by unfold kindN; rw [if_neg (N1.out (by omega))]; rw [if_pos HE.out]
        rw [this]
        rfl
      · have hq : ([83, 84, 82] == s.toList) = false := by
          cases hx : ([83, 84, 82] == s.toList)
          · rfl
          · exact absurd (beq_iff_eq.1 hx).symm he
        have HE := Lib.hid he
        clear he
        go_wp2
        go_roundw
        case rel => exact ⟨3, by omega, by first | rfl | go_num, by first | rfl | trivial, fun _ => N0.out (by omega), fun _ => N1.out (by omega), fun _ => HE.out, by omega⟩
        case measure => simp [intOf]
    · by_cases he : s.toList = [66, 79, 79, 76]
      · have hq : ([66, 79, 79, 76] == s.toList) = true := by rw [he]; rfl
        have HE := Lib.hid he
        clear he
        go_wp2
        go_ret
        refine ⟨?_, by first | rfl | trivial⟩
        have : kindN s.toList = 3 := by unfold kindN; rw [if_neg (N1.out (by omega))]; rw [if_neg (N2.out (by omega))]; rw [if_pos HE.out]
        rw [this]
        rfl
      · have hq : ([66, 79, 79, 76] == s.toList) = false := by
          cases hx : ([66, 79, 79, 76] == s.toList)
          · rfl
          · exact absurd (beq_iff_eq.1 hx).symm he
        have HE := Lib.hid he
        clear he
        go_wp2
        go_roundw
        case rel => exact ⟨4, by omega, by first | rfl | go_num, by first | rfl | trivial, fun _ => N0.out (by omega), fun _ => N1.out (by omega), fun _ => N2.out (by omega), fun _ => HE.out⟩
        case measure => simp [intOf]
    · go_wp2
      go_ret
      refine ⟨?_, by first | rfl | trivial⟩
      have : kindN s.toList = 0 := by unfold kindN; rw [if_neg (N1.out (by omega)), if_neg (N2.out (by omega)), if_neg (N3.out (by omega))]
      rw [this]
      rfl
/-- is it a word of the language? -/
def words13 : List (List UInt8) := [[80, 65, 84, 84, 69, 82, 78], [83, 69, 81], [80, 65, 82, 84, 73, 84, 73, 79, 78], [66, 89], [87, 72, 69, 82, 69], [87, 73, 84, 72, 73, 78], [82, 69, 84, 85, 82, 78], [65, 78, 68], [79, 82], [78, 79, 84], [84, 82, 85, 69], [70, 65, 76, 83, 69], [84, 89, 80, 69]]
def ofLang (l : List UInt8) : Bool := words13.contains l || kindN l != 0
set_option maxRecDepth 100000 in
theorem ofLanguage_any (s : ByteArray) (w : World) (h : Kw w) : Calls Tryd.prog 91 #[.string s] w fun e w' => e = .returned (.bool (ofLang s.toList)) ∧ w' = w := by
  have HK := Lib.hid h
  clear h
  by_cases hx : words13.contains s.toList = true
  · have HX : Hid (ofLang s.toList = true) := by show _ = _; unfold ofLang; rw [hx]; rfl
    have hm : s.toList ∈ words13 := List.contains_iff_mem.1 hx
    simp only [words13, List.mem_cons, List.not_mem_nil, or_false] at hm
    rcases hm with hm | hm | hm | hm | hm | hm | hm | hm | hm | hm | hm | hm | hm
    all_goals
      clear hx
      go_enter Tryd.func91, Tryd.ntmps91
      go_wp2
      go_ret
      exact ⟨by rw [HX.out]; first | rfl | simp, by first | rfl | trivial⟩
  · have hb : ofLang s.toList = (kindN s.toList != 0) := by
      unfold ofLang
      have : words13.contains s.toList = false := by simpa using hx
      rw [this]
      rfl
    have ne : ∀ l ∈ words13, (s.toList == l) = false := by
      intro l hl
      cases hq : (s.toList == l)
      · rfl
      · refine absurd (List.contains_iff_mem.2 ?_) hx
        rw [beq_iff_eq.1 hq]
        exact hl
    simp only [words13, List.mem_cons, List.not_mem_nil, or_false, forall_eq_or_imp, forall_eq] at ne
    obtain ⟨e0, e1, e2, e3, e4, e5, e6, e7, e8, e9, e10, e11, e12⟩ := ne
    have HB := Lib.hid hb
    clear hb hx
    go_enter Tryd.func91, Tryd.ntmps91
    go_wp2_with (go_at_call 97; refine (kindOf_any _ _ HK.out).mono ?_; rintro e w' ⟨rfl, hw'⟩; obtain rfl := hw'.symm)
    go_ret
    exact ⟨by rw [HB.out]; rfl, by first | rfl | trivial⟩
end Go.Proofs.YtlinpkmfjkcoiaaDoor
