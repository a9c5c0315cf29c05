/- Contract of value.Show. -/
import Derived.WalkKit
import Derived.WalkSpells
import Derived.WalkLawsBesides
import Derived.Lib.Hide
import Derived.Test.YtkficmbkoinjjaaGreatDoorVSh
namespace Go.Proofs.YtkficmbkoinjjaaGreatDoor.V
open Go Go.RowKit
set_option maxHeartbeats 400000
set_option linter.unusedVariables false
set_option linter.unusedSimpArgs false
def I64 (n : Int) : Prop := -9223372036854775808 ≤ n ∧ n ≤ 9223372036854775807
def showE (k n : Int) (s : ByteArray) (b : Bool) : Int := if valid k n s b = true then 0 else 12
def showT (k n : Int) (s : ByteArray) (b : Bool) : List UInt8 :=
  if valid k n s b = true then (if k = 1 then Lib.itoa n else if k = 2 then quoteL s.data.toList else if b = true then [84, 82, 85, 69] else [70, 65, 76, 83, 69]) else []
def Shown (k n : Int) (s : ByteArray) (b : Bool) (w : World) (e : Ending) (w' : World) : Prop :=
  e = .returned (.tuple #[.string ⟨(showT k n s b).toArray⟩, .int .i64 (showE k n s b)]) ∧ Below w.heap.size w w'
def KindOk (k : Int) : Prop := k = 1 ∨ k = 2 ∨ k = 3
theorem valid_kind {k n : Int} {s : ByteArray} {b : Bool} (h : valid k n s b = true) : KindOk k := by
  unfold valid at h
  unfold KindOk
  split at h
  · exact .inl (by assumption)
  · split at h
    · exact .inr (.inl (by assumption))
    · split at h
      · exact .inr (.inr (by assumption))
      · simp at h
def rArgs : Nat → Int | 0 => 0 | 1 => 1 | 2 => 1 | _ => 2
def rKinds : Nat → Int | 0 => 0 | 1 => 2 | 2 => 8 | 3 => 2 | 4 => 2 | 5 => 2 | 6 => 14 | 7 => 14 | 8 => 6 | 9 => 6 | 10 => 6 | 11 => 6 | _ => 8
def rDoes : Nat → Int | 0 => 0 | 1 => 0 | 2 => 2 | 3 => 0 | 4 => 0 | 5 => 0 | 6 => 1 | 7 => 1 | 8 => 1 | 9 => 1 | 10 => 1 | 11 => 1 | _ => 2
structure Rules (w : World) : Prop where
  pos : 0 < w.heap.size
  args : ∀ o, o < 14 → w.cell? ⟨0, o * 3, none⟩ = some (.int .i64 (rArgs o))
  kinds : ∀ o, o < 14 → w.cell? ⟨0, o * 3 + 1, none⟩ = some (.int .i64 (rKinds o))
  does : ∀ o, o < 14 → w.cell? ⟨0, o * 3 + 2, none⟩ = some (.int .i64 (rDoes o))
theorem valid_two {n : Int} {s : ByteArray} {b : Bool} (h : valid 2 n s b = true) : s.size ≤ 256 := by
  unfold valid at h
  rw [if_neg (by omega), if_pos rfl] at h
  simp at h
  omega
theorem show_any (k n : Int) (s : ByteArray) (b : Bool) (hn : I64 n) (w : World) (hp : PowTab w) : Calls Tryz.prog 74 #[.agg #[.int .i64 k, .int .i64 n, .string s, .bool b]] w (Shown k n s b w) := by
  have HP := Lib.hid hp
  clear hp
  cases hv : valid k n s b
  · have e1 : Hid (showT k n s b = []) := by show _ = _; unfold showT; rw [hv]; rfl
    have e2 : Hid (showE k n s b = 12) := by show _ = _; unfold showE; rw [hv]; rfl
    go_enter Tryz.func74, Tryz.ntmps74
    go_wp2_with (go_at_call 52; refine (valid_any _ _ _ _ _).mono ?_; rintro e w1 ⟨rfl, hb1⟩; obtain ⟨hc1, hf1⟩ := bcell hb1)
    go_ret2
    refine ⟨by rw [e1.out, e2.out]; rfl, ?_⟩
    exact ((Below.refl _ _).alloc (Nat.le_refl _) _).trans (hb1.mono (by simp))
  · have hk := valid_kind hv
    have e2 : Hid (showE k n s b = 0) := by show _ = _; unfold showE; rw [hv]; rfl
    rcases hk with rfl | rfl | rfl
    · have e1 : Hid (showT 1 n s b = Lib.itoa n) := by show _ = _; unfold showT; rw [hv]; rfl
      go_enter Tryz.func74, Tryz.ntmps74
      go_wp2_with (first | (go_at_call 52; refine (valid_any _ _ _ _ _).mono ?_; rintro e w1 ⟨rfl, hb1⟩; obtain ⟨hc1, hf1⟩ := bcell hb1; have hB1 : Below w.heap.size w w1 := ((Below.refl _ _).alloc (Nat.le_refl _) _).trans (hb1.mono (by simp))) | (go_at_call 86; refine (formatInt_any _ hn.1 hn.2 _ (HP.out.below hB1)).mono ?_; rintro e w2 ⟨rfl, hb2⟩; have hz2 := hB1.size))
      go_ret2
      exact ⟨by rw [e1.out, e2.out]; rfl, hB1.trans (hb2.mono hz2)⟩
    · have hs := valid_two hv
      have e1 : Hid (showT 2 n s b = quoteL s.data.toList) := by show _ = _; unfold showT; rw [hv]; rfl
      go_enter Tryz.func74, Tryz.ntmps74
      go_wp2_with (first | (go_at_call 52; refine (valid_any _ _ _ _ _).mono ?_; rintro e w1 ⟨rfl, hb1⟩; obtain ⟨hc1, hf1⟩ := bcell hb1; have hB1 : Below w.heap.size w w1 := ((Below.refl _ _).alloc (Nat.le_refl _) _).trans (hb1.mono (by simp))) | (go_at_call 87; refine (quote_any _ hs _).mono ?_; rintro e w2 ⟨rfl, hb2⟩; have hz2 := hB1.size))
      go_ret2
      exact ⟨by rw [e1.out, e2.out]; rfl, hB1.trans (hb2.mono hz2)⟩
    · cases b
      · have e1 : Hid (showT 3 n s false = [70, 65, 76, 83, 69]) := by show _ = _; unfold showT; rw [hv]; rfl
        go_enter Tryz.func74, Tryz.ntmps74
        go_wp2_with (go_at_call 52; refine (valid_any _ _ _ _ _).mono ?_; rintro e w1 ⟨rfl, hb1⟩; obtain ⟨hc1, hf1⟩ := bcell hb1)
        go_ret2
        exact ⟨by rw [e1.out, e2.out]; rfl, ((Below.refl _ _).alloc (Nat.le_refl _) _).trans (hb1.mono (by simp))⟩
      · have e1 : Hid (showT 3 n s true = [84, 82, 85, 69]) := by show _ = _; unfold showT; rw [hv]; rfl
        go_enter Tryz.func74, Tryz.ntmps74
        go_wp2_with (go_at_call 52; refine (valid_any _ _ _ _ _).mono ?_; rintro e w1 ⟨rfl, hb1⟩; obtain ⟨hc1, hf1⟩ := bcell hb1)
        go_ret2
        exact ⟨by rw [e1.out, e2.out]; rfl, ((Below.refl _ _).alloc (Nat.le_refl _) _).trans (hb1.mono (by simp))⟩
end Go.Proofs.YtkficmbkoinjjaaGreatDoor.V
