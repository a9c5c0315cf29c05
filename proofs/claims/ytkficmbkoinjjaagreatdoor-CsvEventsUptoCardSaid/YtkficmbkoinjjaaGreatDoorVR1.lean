/- Contract of value.Read. -/
import Derived.WalkKit
import Derived.WalkSpells
import Derived.WalkLawsBesides
import Derived.Lib.Hide
import Derived.Test.YtkficmbkoinjjaaGreatDoorVG2
namespace Go.Proofs.YtkficmbkoinjjaaGreatDoor.V
open Go Go.RowKit
set_option maxHeartbeats 400000
set_option linter.unusedVariables false
set_option linter.unusedSimpArgs false
def ReadPost (l : List UInt8) (w : World) (e : Ending) (w' : World) : Prop :=
  ∃ (K N : Int) (S : ByteArray) (T : Bool) (E : Int), e = .returned (.tuple #[.agg #[.int .i64 K, .int .i64 N, .string S, .bool T], .int .i64 E]) ∧ Below w.heap.size w w' ∧
    ((E = 0 ∧ valid K N S T = true ∧ I64 N ∧ showT K N S T = l) ∨ (E = 12 ∧ K = 0 ∧ N = 0 ∧ S = ⟨#[]⟩ ∧ T = false ∧ ∀ k n s b, I64 n → valid k n s b = true → l ≠ showT k n s b))
theorem show_sh (k n : Int) (s : ByteArray) (b : Bool) (hn : I64 n) (sh : ByteArray) (hs : sh.data.toList = showT k n s b) (E : Int) (hE : E = showE k n s b) (w : World) (hp : PowTab w) :
    Calls Tryz.prog 74 #[.agg #[.int .i64 k, .int .i64 n, .string s, .bool b]] w fun e w' => e = .returned (.tuple #[.string sh, .int .i64 E]) ∧ Below w.heap.size w w' := by
  subst hE
  have : sh = ⟨(showT k n s b).toArray⟩ := bytes_ext (by rw [hs])
  rw [this]
  exact show_any k n s b hn w hp
theorem zero_read {l : List UInt8} {w w' : World} (hb : Below w.heap.size w w') (h : ∀ k n s b, I64 n → valid k n s b = true → l ≠ showT k n s b) :
    ReadPost l w (.returned (.tuple #[.agg #[.int .i64 0, .int .i64 0, .string ⟨#[]⟩, .bool false], .int .i64 12])) w' :=
  ⟨0, 0, ⟨#[]⟩, false, 12, rfl, hb, .inr ⟨rfl, rfl, rfl, rfl, rfl, h⟩⟩
/-- guess answers this -/
def GuessIs (t : ByteArray) (K N : Int) (S : ByteArray) (T ok : Bool) : Prop :=
  (ok = true → I64 N) ∧ ∀ k n s b, I64 n → valid k n s b = true → t.data.toList = showT k n s b → ok = true ∧ K = k ∧ N = n ∧ S = s ∧ T = b
theorem read_any (t : ByteArray) (w : World) (hv : ErrVars w) (hp : PowTab w) : Calls Tryz.prog 73 #[.string t] w (ReadPost t.data.toList w) := by
  have HV := Lib.hid hv
  have HP := Lib.hid hp
  clear hv hp
  go_enter Tryz.func73, Tryz.ntmps73
  go_wp2_with fail
  refine (guess_any t _ (HV.out.below ((Below.refl _ _).alloc (Nat.le_refl _) _))).mono ?_
  rintro e w1 ⟨K, N, S, T, ok, rfl, hb1, hg⟩
  have HG : Hid (GuessIs t K N S T ok) := hg
  clear hg
  obtain ⟨hc1, hf1⟩ := bcell hb1
  have hz1 : w.heap.size < w1.heap.size := by have := hb1.size; simp at this; omega
  have hB1 : Below w.heap.size w w1 := ((Below.refl _ _).alloc (Nat.le_refl _) _).trans (hb1.mono (by simp))
  cases ok
  · go_wp2
    refine bodyPost_ret (v := .tuple #[.agg #[.int .i64 0, .int .i64 0, .string ⟨#[]⟩, .bool false], .int .i64 12]) (by simp [results, Tryz.results73, go_sem, hz1, hc1]) rfl ?_
    refine zero_read ?_ fun k n s b hn hv he => absurd (HG.out.2 k n s b hn hv he).1 (by decide)
    repeat (first | exact hB1 | apply Below.drew | refine Below.setCell ?_ (by show w.heap.size ≤ w.heap.size; omega) _ | refine Below.alloc ?_ (by first | omega | (simp [World.setCell]; done) | (simp [World.setCell]; omega)) _)
  · have hI : Hid (I64 N) := HG.out.1 rfl
    obtain ⟨sh, hsh⟩ : ∃ sh : ByteArray, sh.data.toList = showT K N S T := ⟨⟨(showT K N S T).toArray⟩, rfl⟩
    have HSH := Lib.hid hsh
    clear hsh
    cases hvl : valid K N S T
    · have hE : Hid (12 = showE K N S T) := by show _ = _; unfold showE; rw [hvl]; rfl
      go_wp2_with (go_at_call 74; refine (show_sh _ _ _ _ hI.out sh HSH.out 12 hE.out _ (HP.out.below (hB1.alloc (by omega) _))).mono ?_; rintro e w2 ⟨rfl, hb2⟩; obtain ⟨hc2, hf2⟩ := bcell hb2; have hz2 := hb2.size)
      have hB2 : Below w.heap.size w w2 := (hB1.alloc (by omega) _).trans (hb2.mono (by simp; omega))
      have hzz : w.heap.size < w1.heap.size + 1 := by omega
      refine bodyPost_ret (v := .tuple #[.agg #[.int .i64 0, .int .i64 0, .string ⟨#[]⟩, .bool false], .int .i64 12]) (by simp [results, Tryz.results73, go_sem, hz1, hzz, hc1, hc2]) rfl ?_
      refine zero_read ?_ fun k n s b hn hv he => ?_
      · repeat (first | exact hB2 | apply Below.drew | refine Below.setCell ?_ (by show w.heap.size ≤ w.heap.size; omega) _ | refine Below.alloc ?_ (by first | omega | (simp [World.setCell]; done) | (simp [World.setCell]; omega)) _)
      · obtain ⟨_, rfl, rfl, rfl, rfl⟩ := HG.out.2 k n s b hn hv he
        rw [hv] at hvl
        cases hvl
    · have hE : Hid (0 = showE K N S T) := by show _ = _; unfold showE; rw [hvl]; rfl
      have HVL := Lib.hid hvl
      clear hvl
      cases hq : (sh.toList == t.toList)
      · have HQ := Lib.hid hq
        go_wp2_with (go_at_call 74; refine (show_sh _ _ _ _ hI.out sh HSH.out 0 hE.out _ (HP.out.below (hB1.alloc (by omega) _))).mono ?_; rintro e w2 ⟨rfl, hb2⟩; obtain ⟨hc2, hf2⟩ := bcell hb2; have hz2 := hb2.size)
        have hB2 : Below w.heap.size w w2 := (hB1.alloc (by omega) _).trans (hb2.mono (by simp; omega))
        have hzz : w.heap.size < w1.heap.size + 1 := by omega
        refine bodyPost_ret (v := .tuple #[.agg #[.int .i64 0, .int .i64 0, .string ⟨#[]⟩, .bool false], .int .i64 12]) (by simp [results, Tryz.results73, go_sem, hz1, hzz, hc1, hc2]) rfl ?_
        refine zero_read ?_ fun k n s b hn hv he => ?_
        · repeat (first | exact hB2 | apply Below.drew | refine Below.setCell ?_ (by show w.heap.size ≤ w.heap.size; omega) _ | refine Below.alloc ?_ (by first | omega | (simp [World.setCell]; done) | (simp [World.setCell]; omega)) _)
        · obtain ⟨_, rfl, rfl, rfl, rfl⟩ := HG.out.2 k n s b hn hv he
          have h1 := HQ.out
          rw [ByteArray.toList_eq, ByteArray.toList_eq, HSH.out, he] at h1
          simp at h1
      · have HQ := Lib.hid hq
        go_wp2_with (go_at_call 74; refine (show_sh _ _ _ _ hI.out sh HSH.out 0 hE.out _ (HP.out.below (hB1.alloc (by omega) _))).mono ?_; rintro e w2 ⟨rfl, hb2⟩; obtain ⟨hc2, hf2⟩ := bcell hb2; have hz2 := hb2.size)
        have hB2 : Below w.heap.size w w2 := (hB1.alloc (by omega) _).trans (hb2.mono (by simp; omega))
        have hzz : w.heap.size < w1.heap.size + 1 := by omega
        refine bodyPost_ret (v := .tuple #[.agg #[.int .i64 K, .int .i64 N, .string S, .bool T], .int .i64 0]) (by simp [results, Tryz.results73, go_sem, hz1, hzz, hc1, hc2]) rfl ?_
        refine ⟨K, N, S, T, 0, rfl, ?_, .inl ⟨rfl, HVL.out, hI.out, ?_⟩⟩
        · repeat (first | exact hB2 | apply Below.drew | refine Below.setCell ?_ (by show w.heap.size ≤ w.heap.size; omega) _ | refine Below.alloc ?_ (by first | omega | (simp [World.setCell]; done) | (simp [World.setCell]; omega)) _)
        · have h1 := beq_iff_eq.1 HQ.out
          rw [ByteArray.toList_eq, ByteArray.toList_eq, HSH.out] at h1
          exact h1
end Go.Proofs.YtkficmbkoinjjaaGreatDoor.V
