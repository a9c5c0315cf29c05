/- Contract of the laws' filler. -/
import Derived.Test.YtlpdbondicfnlaaDoorG7
import Derived.Deep.CutBlock
namespace Go.Proofs.YtlpdbondicfnlaaDoor
open Go Go.RowKit
set_option maxHeartbeats 2000000
set_option linter.unusedVariables false
set_option linter.unusedSimpArgs false
/-- what may stand between tokens -/
structure Fills (F : List UInt8) : Prop where
  skip : ∀ p R r, scanT p R (F ++ r) = scanT (p + F.length) R r
  head : ∃ c t, F = c :: t ∧ blankB c = true
  len : F.length ≤ 40
theorem note_run (b r : List UInt8) (h : ∀ x ∈ b, x ≠ 10) (p : Nat) (R : List Tk) : scanT p R (45 :: 45 :: (b ++ 10 :: r)) = scanT (p + (b.length + 3)) R r := by
  have hs : stepL (45 :: 45 :: (b ++ 10 :: r)) p = .skip (b.length + 2) := by
    rw [stepL_cons, if_neg (by decide), if_pos ⟨rfl, rfl⟩]
    congr 1
    unfold noteL
    rw [List.takeWhile_cons_of_pos (by decide), List.takeWhile_cons_of_pos (by decide), List.takeWhile_append_of_pos (by intro x hx; simpa using h x hx), List.takeWhile_cons_of_neg (by decide)]
    simp
  rw [scanT_eq, hs]
  simp only
  rw [show (45 :: 45 :: (b ++ 10 :: r)).drop (b.length + 2) = 10 :: r by simp, scan_blank _ _ 10 r (by decide)]
  congr 1
theorem fills_0 : Fills [10] := ⟨fun p R r => scan_blank p R 10 r (by decide), ⟨10, [], rfl, by decide⟩, by decide⟩
theorem fills_1 : Fills [9, 32, 13, 10] := ⟨fun p R r => by
  show scanT p R (9 :: 32 :: 13 :: 10 :: r) = _
  rw [scan_blank _ _ 9 _ (by decide), scan_blank _ _ 32 _ (by decide), scan_blank _ _ 13 _ (by decide), scan_blank _ _ 10 _ (by decide)]
  rfl, ⟨9, _, rfl, by decide⟩, by decide⟩
theorem fills_2 (b : List UInt8) (h : ∀ x ∈ b, x ≠ 10) (hl : b.length ≤ 20) : Fills ([32, 45, 45] ++ b ++ [10]) := by
  refine ⟨fun p R r => ?_, ⟨32, _, rfl, by decide⟩, by simp; omega⟩
  rw [show [32, 45, 45] ++ b ++ [10] ++ r = 32 :: 45 :: 45 :: (b ++ 10 :: r) by simp, scan_blank _ _ 32 _ (by decide), note_run b r h]
  congr 1
  simp
  omega
theorem fills_3 (b : List UInt8) (h : ∀ x ∈ b, x ≠ 10) (hl : b.length ≤ 20) : Fills ([32, 45, 45, 32, 120, 10, 45, 45] ++ b ++ [10, 32]) := by
  refine ⟨fun p R r => ?_, ⟨32, _, rfl, by decide⟩, by simp; omega⟩
  rw [show [32, 45, 45, 32, 120, 10, 45, 45] ++ b ++ [10, 32] ++ r = 32 :: 45 :: 45 :: ([32, 120] ++ 10 :: (45 :: 45 :: (b ++ 10 :: (32 :: r)))) by simp, scan_blank _ _ 32 _ (by decide), note_run [32, 120] _ (by decide), note_run b _ h, scan_blank _ _ 32 _ (by decide)]
  congr 1
  simp
  omega
theorem fills_4 : Fills [32, 32] := ⟨fun p R r => by
  show scanT p R (32 :: 32 :: r) = _
  rw [scan_blank _ _ 32 _ (by decide), scan_blank _ _ 32 _ (by decide)]
  rfl, ⟨32, _, rfl, by decide⟩, by decide⟩
set_option maxRecDepth 100000 in
theorem filler_any (k : Nat) (hk : k < 256) (s : ByteArray) (w : World) : Calls Tryd.prog 13 #[.int .u8 k, .string s] w fun e w' => (∃ F : ByteArray, e = .returned (.string F) ∧ Fills F.data.toList) ∧ Below w.heap.size w w' := by
  obtain ⟨i0, hi, hz0, hz1, hz2⟩ := info_parts infoByte
  have HB0 : Hid (Below w.heap.size w w) := Below.refl _ _
  go_enter Tryd.func13, Tryd.ntmps13
  go_wp2
  go_loopw [5, 6] (fun bv iv wr => ∃ (i : Nat) (b : List UInt8), iv = .int .i64 i ∧ i ≤ 20 ∧ i ≤ s.size ∧ b.length ≤ i ∧ (∀ x ∈ b, x ≠ 10) ∧ wr.ownsRow w.heap.size 5 1 bv b.length (Lib.byteCells b) ∧ Below w.heap.size w wr) (fun _ iv _ => 20 - (intOf iv).toNat)
  case atStart => exact ⟨0, [], rfl, by omega, Nat.zero_le _, Nat.le_refl _, (by intro x hx; cases hx), World.ownsRow_nil _ _ _ _, HB0.out⟩
  case round =>
    obtain ⟨i, b, rfl, hi20, his, hbl, hb10, hown, hb⟩ := hrel
    have HO := Lib.hid hown
    have HB := Lib.hid hb
    have H10 := Lib.hid hb10
    clear hown hb hb10
    by_cases hgo : i < s.size ∧ i < 20
    · have d1 : decide (i < s.size) = true := by simp; omega
      have d2 : decide ((i : Int) < 20) = true := by simp; omega
      have v1 : (i : Int) < (s.size : Int) := by omega
      have hlt : i < s.size := hgo.1
      have hi2 : i < 20 := hgo.2
      by_cases h10 : s[i] = 10
      · have e1 : (s[i].toNat : Int) = 10 := by rw [h10]; rfl
        clear hgo h10
        go_wp2
        go_roundw
        case rel => exact ⟨i + 1, b, by go_num, by omega, by omega, by omega, H10.out, HO.out, HB.out⟩
        case measure => simp [intOf]; omega
      · have e1 : ((s[i].toNat : Int) == 10) = false := by
          have : s[i].toNat ≠ 10 := fun h => h10 (UInt8.toNat_inj.1 h)
          simp only [beq_eq_false_iff_ne]
          omega
        have e2 : ((s[i].toNat : Int) != 10) = true := by simp only [bne, e1]; rfl
        have HNE := Lib.hid h10
        have hm1 : b.length + 1 ≤ maxLen := by unfold maxLen; omega
        have hm2 : (b.length + 1) * 1 ≤ 140737488355328 := by omega
        clear hgo h10
        go_wp2_with (at_builtin; refine wpList_append_own _ rfl _ _ 22 rfl w.heap.size 5 i0 (.int .u8 0) 1 1 Tryd.underlying22 hi hz0 hz1 hz2 rfl (by decide) _ _ _ rfl (World.ownsRow.alloc HO.out _) ⟨wr.heap.size, 0, none⟩ 1 1 (u8s [(s[i].toNat : Int)]) rfl rfl (lit_cells _ _ _) (u8s_one _) hm1 hm2 (by have := HB.out.size; simp; omega) ?_; intro v2 w2 hown2 hgrow2 _; refine Hid.out ?_)
        refine Lib.hid ?_
        have hb2 := (HB.out.alloc HB.out.size _).grown hgrow2 (by have := HB.out.size; simp; omega) (fun j hj => (World.ownsRow.lt HO.out j hj).1)
        have hown3 : w2.ownsRow w.heap.size 5 1 v2 (b ++ [s[i]]).length (Lib.byteCells (b ++ [s[i]])) := by
          rw [List.length_append, List.length_singleton]
          have e : Lib.byteCells (b ++ [s[i]]) = Lib.byteCells b ++ u8s [(s[i].toNat : Int)] := by simp [Lib.byteCells, u8s]
          rw [e]
          exact hown2
        have HB2 := Lib.hid hb2
        have HO3 := Lib.hid hown3
        clear hown2 hgrow2 hb2 hown3
        go_wp2
        go_roundw
        case rel => exact ⟨i + 1, b ++ [s[i]], by go_num, by omega, by omega, by simp; omega, (by intro x hx; rcases List.mem_append.1 hx with hx | hx; exact H10.out x hx; simp at hx; rw [hx]; exact HNE.out), HO3.out, HB2.out⟩
        case measure => simp [intOf]; omega
    · have hd : decide (i < s.size) = false ∨ (decide (i < s.size) = true ∧ decide ((i : Int) < 20) = false) := by
        by_cases h : i < s.size
        · right; exact ⟨by simp; omega, by simp; omega⟩
        · left; simp; omega
      clear hgo
      have hcv := own_conv HO.out
      obtain ⟨P, hP⟩ : ∃ P : ByteArray, P = ⟨b.toArray⟩ := ⟨_, rfl⟩
      rw [← hP] at hcv
      have hPz0 : P.size = b.length := by rw [hP]; simp [ByteArray.size]
      have hPz : (P.size : Int) ≤ 20 := by omega
      clear hPz0
      have hPl : P.data.toList = b := by rw [hP]
      have HPL := Lib.hid hPl
      clear hP hPl
      have hk5 : k % 5 = 0 ∨ k % 5 = 1 ∨ k % 5 = 2 ∨ k % 5 = 3 ∨ k % 5 = 4 := by omega
      rcases hd with d1 | ⟨d1, d2⟩
      all_goals
        rcases hk5 with h5 | h5 | h5 | h5 | h5
        · have hk5 : (k : Int) % 5 = 0 := by omega
          have tm : Int.tmod (k : Int) 5 = 0 := by rw [Int.tmod_eq_emod_of_nonneg (by omega)]; exact hk5
          clear h5
          go_wp2
          go_ret
          exact ⟨⟨⟨#[10]⟩, rfl, fills_0⟩, HB.out⟩
        · have hk5 : (k : Int) % 5 = 1 := by omega
          have tm : Int.tmod (k : Int) 5 = 1 := by rw [Int.tmod_eq_emod_of_nonneg (by omega)]; exact hk5
          clear h5
          go_wp2
          go_ret
          exact ⟨⟨⟨#[9, 32, 13, 10]⟩, rfl, fills_1⟩, HB.out⟩
        · have hk5 : (k : Int) % 5 = 2 := by omega
          have tm : Int.tmod (k : Int) 5 = 2 := by rw [Int.tmod_eq_emod_of_nonneg (by omega)]; exact hk5
          clear h5
          go_wp2
          go_ret
          exact ⟨⟨_, rfl, by have := fills_2 b H10.out (by omega); rw [← HPL.out] at this; simpa using this⟩, HB.out⟩
        · have hk5 : (k : Int) % 5 = 3 := by omega
          have tm : Int.tmod (k : Int) 5 = 3 := by rw [Int.tmod_eq_emod_of_nonneg (by omega)]; exact hk5
          clear h5
          go_wp2
          go_ret
          exact ⟨⟨_, rfl, by have := fills_3 b H10.out (by omega); rw [← HPL.out] at this; simpa using this⟩, HB.out⟩
        · have hk5 : (k : Int) % 5 = 4 := by omega
          have tm : Int.tmod (k : Int) 5 = 4 := by rw [Int.tmod_eq_emod_of_nonneg (by omega)]; exact hk5
          clear h5
          go_wp2
          go_ret
          exact ⟨⟨⟨#[32, 32]⟩, rfl, fills_4⟩, HB.out⟩
end Go.Proofs.YtlpdbondicfnlaaDoor
