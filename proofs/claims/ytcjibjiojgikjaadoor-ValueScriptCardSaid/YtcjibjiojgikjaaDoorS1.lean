/- Contract of value.Show. -/
import Derived.Test.YtcjibjiojgikjaaDoorSh
import Derived.WalkKit
import Derived.WalkSpells
import Derived.WalkLawsBesides
import Derived.Lib.Hide
namespace Go.Proofs.YtcjibjiojgikjaaDoor
open Go Go.RowKit
set_option maxHeartbeats 400000
set_option linter.unusedVariables false
set_option linter.unusedSimpArgs false
def I64 (n : Int) : Prop := -9223372036854775808 ≤ n ∧ n ≤ 9223372036854775807
def showE (k n : Int) (s : ByteArray) (b : Bool) : Int := if valid k n s b = true then 0 else 12
def showT (k n : Int) (s : ByteArray) (b : Bool) : List UInt8 :=
  if valid k n s b = true then (if k = 1 then Lib.itoa n else if k = 2 then quoteL s.data.toList else if b = true then [84, 82, 85, 69] else [70, 65, 76, 83, 69]) else []
def Shown (k n : Int) (s : ByteArray) (b : Bool) (w : World) (e : Ending) (w' : World) : Prop :=
  e = .returned (.tuple #[.string ⟨(showT k n s b).toArray⟩, .int .i64 (showE k n s b)]) ∧ Below w.heap.size w w'
theorem valid_two {n : Int} {s : ByteArray} {b : Bool} (h : valid 2 n s b = true) : s.size ≤ 256 := by
  unfold valid at h
  rw [if_neg (by omega), if_pos rfl] at h
  simp at h
  omega
theorem show_any (k n : Int) (s : ByteArray) (b : Bool) (hn : I64 n) (w : World) (hp : PowTab w) : Calls Tryd.prog 12 #[.agg #[.int .i64 k, .int .i64 n, .string s, .bool b]] w (Shown k n s b w) := by
  have HP := Lib.hid hp
  clear hp
  cases hv : valid k n s b
  · have e1 : Hid (showT k n s b = []) := by show _ = _; unfold showT; rw [hv]; rfl
    have e2 : Hid (showE k n s b = 12) := by show _ = _; unfold showE; rw [hv]; rfl
    go_enter Tryd.func12, Tryd.ntmps12
    go_wp2_with (go_at_call 13; refine (valid_any _ _ _ _ _).mono ?_; rintro e w1 ⟨rfl, hb1⟩; obtain ⟨hc1, hf1⟩ := bcell hb1)
    go_ret2
    refine ⟨by rw [e1.out, e2.out]; rfl, ?_⟩
    exact ((Below.refl _ _).alloc (Nat.le_refl _) _).trans (hb1.mono (by simp))
  · have hk := valid_kind hv
    have e2 : Hid (showE k n s b = 0) := by show _ = _; unfold showE; rw [hv]; rfl
    rcases hk with rfl | rfl | rfl
    · have e1 : Hid (showT 1 n s b = Lib.itoa n) := by show _ = _; unfold showT; rw [hv]; rfl
      go_enter Tryd.func12, Tryd.ntmps12
      go_wp2_with (first | (go_at_call 13; refine (valid_any _ _ _ _ _).mono ?_; rintro e w1 ⟨rfl, hb1⟩; obtain ⟨hc1, hf1⟩ := bcell hb1; have hB1 : Below w.heap.size w w1 := ((Below.refl _ _).alloc (Nat.le_refl _) _).trans (hb1.mono (by simp))) | (go_at_call 28; refine (formatInt_any _ hn.1 hn.2 _ (HP.out.below hB1)).mono ?_; rintro e w2 ⟨rfl, hb2⟩; have hz2 := hB1.size))
      go_ret2
      exact ⟨by rw [e1.out, e2.out]; rfl, hB1.trans (hb2.mono hz2)⟩
    · have hs := valid_two hv
      have e1 : Hid (showT 2 n s b = quoteL s.data.toList) := by show _ = _; unfold showT; rw [hv]; rfl
      go_enter Tryd.func12, Tryd.ntmps12
      go_wp2_with (first | (go_at_call 13; refine (valid_any _ _ _ _ _).mono ?_; rintro e w1 ⟨rfl, hb1⟩; obtain ⟨hc1, hf1⟩ := bcell hb1; have hB1 : Below w.heap.size w w1 := ((Below.refl _ _).alloc (Nat.le_refl _) _).trans (hb1.mono (by simp))) | (go_at_call 29; refine (quote_any _ hs _).mono ?_; rintro e w2 ⟨rfl, hb2⟩; have hz2 := hB1.size))
      go_ret2
      exact ⟨by rw [e1.out, e2.out]; rfl, hB1.trans (hb2.mono hz2)⟩
    · cases b
      · have e1 : Hid (showT 3 n s false = [70, 65, 76, 83, 69]) := by show _ = _; unfold showT; rw [hv]; rfl
        go_enter Tryd.func12, Tryd.ntmps12
        go_wp2_with (go_at_call 13; refine (valid_any _ _ _ _ _).mono ?_; rintro e w1 ⟨rfl, hb1⟩; obtain ⟨hc1, hf1⟩ := bcell hb1)
        go_ret2
        exact ⟨by rw [e1.out, e2.out]; rfl, ((Below.refl _ _).alloc (Nat.le_refl _) _).trans (hb1.mono (by simp))⟩
      · have e1 : Hid (showT 3 n s true = [84, 82, 85, 69]) := by show _ = _; unfold showT; rw [hv]; rfl
        go_enter Tryd.func12, Tryd.ntmps12
        go_wp2_with (go_at_call 13; refine (valid_any _ _ _ _ _).mono ?_; rintro e w1 ⟨rfl, hb1⟩; obtain ⟨hc1, hf1⟩ := bcell hb1)
        go_ret2
        exact ⟨by rw [e1.out, e2.out]; rfl, ((Below.refl _ _).alloc (Nat.le_refl _) _).trans (hb1.mono (by simp))⟩
end Go.Proofs.YtcjibjiojgikjaaDoor
