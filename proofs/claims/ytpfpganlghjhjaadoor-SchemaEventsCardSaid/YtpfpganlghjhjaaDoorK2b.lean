/- What the law SchemaNames lays: its list of words; what a catalog finds. -/
import Derived.Test.YtpfpganlghjhjaaDoorK2
namespace Go.Proofs.YtpfpganlghjhjaaDoor.lawNames
open Go Go.ChangeShapes Go.WideShapes Go.ChangeAt Go.RowKit
set_option maxHeartbeats 1000000
set_option linter.unusedVariables false
set_option linter.unusedSimpArgs false
theorem cells16 (W : World) (j : Nat) (hj : j < 16) : ∃ b : ByteArray, (W.alloc (Obj.cells #[.string ⟨#[80, 65, 84, 84, 69, 82, 78]⟩, .string ⟨#[83, 69, 81]⟩, .string ⟨#[80, 65, 82, 84, 73, 84, 73, 79, 78]⟩, .string ⟨#[66, 89]⟩, .string ⟨#[87, 72, 69, 82, 69]⟩, .string ⟨#[87, 73, 84, 72, 73, 78]⟩, .string ⟨#[82, 69, 84, 85, 82, 78]⟩, .string ⟨#[65, 78, 68]⟩, .string ⟨#[79, 82]⟩, .string ⟨#[78, 79, 84]⟩, .string ⟨#[84, 82, 85, 69]⟩, .string ⟨#[70, 65, 76, 83, 69]⟩, .string ⟨#[84, 89, 80, 69]⟩, .string ⟨#[73, 78, 84]⟩, .string ⟨#[83, 84, 82]⟩, .string ⟨#[66, 79, 79, 76]⟩] 52)).cell? ⟨W.heap.size, j, none⟩ = some (.string b) ∧ words16[j]? = some b.toList := by
  have hc : j = 0 ∨ j = 1 ∨ j = 2 ∨ j = 3 ∨ j = 4 ∨ j = 5 ∨ j = 6 ∨ j = 7 ∨ j = 8 ∨ j = 9 ∨ j = 10 ∨ j = 11 ∨ j = 12 ∨ j = 13 ∨ j = 14 ∨ j = 15 := by omega
  rcases hc with rfl | rfl | rfl | rfl | rfl | rfl | rfl | rfl | rfl | rfl | rfl | rfl | rfl | rfl | rfl | rfl
  · exact ⟨⟨#[80, 65, 84, 84, 69, 82, 78]⟩, by simp [go_sem], by rw [ByteArray.toList_eq]; rfl⟩
  · exact ⟨⟨#[83, 69, 81]⟩, by simp [go_sem], by rw [ByteArray.toList_eq]; rfl⟩
  · exact ⟨⟨#[80, 65, 82, 84, 73, 84, 73, 79, 78]⟩, by simp [go_sem], by rw [ByteArray.toList_eq]; rfl⟩
  · exact ⟨⟨#[66, 89]⟩, by simp [go_sem], by rw [ByteArray.toList_eq]; rfl⟩
  · exact ⟨⟨#[87, 72, 69, 82, 69]⟩, by simp [go_sem], by rw [ByteArray.toList_eq]; rfl⟩
  · exact ⟨⟨#[87, 73, 84, 72, 73, 78]⟩, by simp [go_sem], by rw [ByteArray.toList_eq]; rfl⟩
  · exact ⟨⟨#[82, 69, 84, 85, 82, 78]⟩, by simp [go_sem], by rw [ByteArray.toList_eq]; rfl⟩
  · exact ⟨⟨#[65, 78, 68]⟩, by simp [go_sem], by rw [ByteArray.toList_eq]; rfl⟩
  · exact ⟨⟨#[79, 82]⟩, by simp [go_sem], by rw [ByteArray.toList_eq]; rfl⟩
  · exact ⟨⟨#[78, 79, 84]⟩, by simp [go_sem], by rw [ByteArray.toList_eq]; rfl⟩
  · exact ⟨⟨#[84, 82, 85, 69]⟩, by simp [go_sem], by rw [ByteArray.toList_eq]; rfl⟩
  · exact ⟨⟨#[70, 65, 76, 83, 69]⟩, by simp [go_sem], by rw [ByteArray.toList_eq]; rfl⟩
  · exact ⟨⟨#[84, 89, 80, 69]⟩, by simp [go_sem], by rw [ByteArray.toList_eq]; rfl⟩
  · exact ⟨⟨#[73, 78, 84]⟩, by simp [go_sem], by rw [ByteArray.toList_eq]; rfl⟩
  · exact ⟨⟨#[83, 84, 82]⟩, by simp [go_sem], by rw [ByteArray.toList_eq]; rfl⟩
  · exact ⟨⟨#[66, 79, 79, 76]⟩, by simp [go_sem], by rw [ByteArray.toList_eq]; rfl⟩
theorem take_has {j : Nat} {w : List UInt8} (h : words16[j]? = some w) (l : List UInt8) : (words16.take (j + 1)).contains l = ((words16.take j).contains l || w == l) := by
  rw [List.take_add_one, h, Bool.eq_iff_iff]
  simp only [Option.toList_some, List.contains_iff_mem, List.mem_append, List.mem_singleton, Bool.or_eq_true, beq_iff_eq]
  constructor
  · rintro (h1 | h1)
    · exact .inl h1
    · exact .inr h1.symm
  · rintro (h1 | h1)
    · exact .inl h1
    · exact .inr h1.symm
theorem found_none (s : ByteArray) : Found #[] s none := rfl
theorem found_same (s : ByteArray) (val : Value) : Found ((#[] : Array MapEntry).push { key := .string s, val := val, born := 0 }) s (some (0, val)) := by
  have : (s == s) = true := (MapKept.bytes_beq s s).2 rfl
  show Instr.findNow .string (.string s) [{ key := .string s, val := val, born := 0 }] 0 = _
  simp [Instr.findNow, Instr.sameNow, this]
theorem found_other {s t : ByteArray} (h : s ≠ t) (val : Value) : Found ((#[] : Array MapEntry).push { key := .string t, val := val, born := 0 }) s none := by
  have : (s == t) = false := by
    cases hx : (s == t)
    · rfl
    · exact absurd ((MapKept.bytes_beq s t).1 hx) h
  show Instr.findNow .string (.string s) [{ key := .string t, val := val, born := 0 }] 0 = _
  simp [Instr.findNow, Instr.sameNow, this]
theorem at_one (w : World) (s : ByteArray) : AtV (w.alloc (Obj.cells #[.string s, .int .i64 1] 38)) (.slice (some ⟨w.heap.size, 0, none⟩) 1 1) [(s, 1)] := by
  refine .inr ⟨w.heap.size, 0, 1, rfl, by simp, by simp, by unfold maxLen; omega, ?_⟩
  intro i hi
  have hi0 : i = 0 := by simpa using hi
  subst hi0
  exact ⟨w.heap.size, 0, rfl, by simp [go_sem], by simp [go_sem]⟩
theorem eq_of_list {s : ByteArray} {l : List UInt8} (h : s.toList = l) : s = ⟨l.toArray⟩ := bytes_ext (by rw [← ByteArray.toList_eq, h])
theorem attr_of_bad {l : List UInt8} (h : nameL l = false) : attrL l = false := by unfold attrL; rw [h]; rfl
theorem attr_time {l : List UInt8} (h : (l == [116, 105, 109, 101]) = true) : attrL l = false := by unfold attrL; rw [h]; simp
theorem attr_ok {l : List UInt8} (h1 : nameL l = true) (h2 : (l == [116, 105, 109, 101]) = false) : attrL l = true := by unfold attrL; rw [h1, h2]; rfl
end Go.Proofs.YtpfpganlghjhjaaDoor.lawNames
