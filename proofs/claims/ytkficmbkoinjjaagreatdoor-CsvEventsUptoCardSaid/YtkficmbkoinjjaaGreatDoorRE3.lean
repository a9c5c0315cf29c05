/- Contracts of the document's own answer's Hex and quoted. -/
import Derived.WalkKit
import Derived.WalkSpells
import Derived.WalkLawsBesides
import Derived.Lib.Hide
import Derived.BigQuiet
import Derived.LoopN
import Derived.LoopTactic
import Derived.OwnWalk
import Derived.Laws.IdiomStrings
import Derived.Laws.OwnMore
import Derived.Deep.AppendLies
import Derived.Test.YtkficmbkoinjjaaGreatDoorVQ2
namespace Go.Proofs.YtkficmbkoinjjaaGreatDoor.V
open Go Go.RowKit
set_option maxHeartbeats 4000000
set_option linter.unusedVariables false
set_option linter.unusedSimpArgs false
theorem hex_r (n : Int) (h0 : 0 ≤ n) (h1 : n < 16) (w : World) : Calls Tryz.prog 76 #[.int .i64 n] w fun e w' => e = .returned (.int .u8 (hexd n)) ∧ w' = w := by
  by_cases h : n < 10
  · have He : Hid (hexd n = 48 + n) := by show _ = _; unfold hexd; rw [if_pos h]
    go_enter Tryz.func76, Tryz.ntmps76
    go_wp2
    go_ret
    exact ⟨by rw [He.out]; rfl, rfl⟩
  · have He : Hid (hexd n = 87 + n) := by show _ = _; unfold hexd; rw [if_neg h]
    have e : 97 + n - 10 = 87 + n := by omega
    go_enter Tryz.func76, Tryz.ntmps76
    go_wp2
    go_ret
    exact ⟨by rw [He.out]; simp, rfl⟩
set_option maxRecDepth 100000 in
theorem quoted_r (s : ByteArray) (hs : s.size ≤ 256) (w : World) : Calls Tryz.prog 61 #[.string s] w fun e w' => e = .returned (.string ⟨(quoteL s.data.toList).toArray⟩) ∧ Below w.heap.size w w' := by
  obtain ⟨i0, hi, hz0, hz1, hz2⟩ := info_parts infoByte
  have hm1 : 1 ≤ maxLen := by unfold maxLen; omega
  go_enter Tryz.func61, Tryz.ntmps61
  go_wp2
  go_loopw [3, 4] (fun v i wr => ∃ k : Nat, k ≤ s.size ∧ i = .int .i64 k ∧ wr.ownsRow w.heap.size 5 1 v (1 + (escL (s.data.toList.take k)).length) (u8s (34 :: escL (s.data.toList.take k))) ∧ Below w.heap.size w wr) (fun _ i _ => s.size - (intOf i).toNat)
  case atStart => exact ⟨0, Nat.zero_le _, rfl, by simpa [escL, u8s] using World.ownsRow_lit (base := w.heap.size) (e := 5) (size := 1) w #[.int .u8 34] 1 (Nat.le_refl _) hm1 rfl, (Below.refl _ _).alloc (Nat.le_refl _) _⟩
  case round =>
    obtain ⟨k, hk, rfl, hown, hnx⟩ := hrel
    have hwz := hnx.size
    have hel := escL_len (s.data.toList.take k)
    have htl : (s.data.toList.take k).length ≤ k := List.length_take_le _ _
    by_cases hlt : k < s.size
    · have hc0 : (0 : Int) ≤ (s[k].toNat : Int) := by omega
      have hc1 : (s[k].toNat : Int) < 256 := by have := s[k].toNat_lt; omega
      have HS : Hid (escL (s.data.toList.take (k + 1)) = escL (s.data.toList.take k) ++ escI s[k].toNat) := by show _ = _; rw [take_snoc s k hlt, escL_snoc]
      have cs : (s[k].toNat : Int) = 34 ∨ (s[k].toNat : Int) = 92 ∨ (s[k].toNat : Int) = 10 ∨ (s[k].toNat : Int) = 9 ∨ ((s[k].toNat : Int) ≠ 34 ∧ (s[k].toNat : Int) ≠ 92 ∧ 32 ≤ (s[k].toNat : Int) ∧ (s[k].toNat : Int) ≤ 126) ∨ ((s[k].toNat : Int) ≠ 10 ∧ (s[k].toNat : Int) ≠ 9 ∧ (s[k].toNat : Int) < 32) ∨ 126 < (s[k].toNat : Int) := by omega
      rcases cs with hc | hc | hc | hc | hc | hc | hc
      · have hm : 1 + (escL (s.data.toList.take k)).length + 2 ≤ maxLen := by unfold maxLen; omega
        have hm2 : (1 + (escL (s.data.toList.take k)).length + 2) * 1 ≤ 140737488355328 := by omega
        have He : Hid (escI s[k].toNat = [92, 34]) := by show _ = _; rw [hc]; rfl
        have b0 : ((s[k].toNat : Int) == 34) = true := by rw [hc]; rfl
        go_wp2_with (first | (go_at_call 76; refine (hex_r _ (by first | assumption | omega) (by first | assumption | omega) _).mono ?_; rintro e w' ⟨rfl, hw⟩; obtain rfl := hw.symm) | (at_builtin; refine wpList_append_own _ rfl _ _ 87 rfl w.heap.size 5 i0 (.int .u8 0) 1 1 Tryz.underlying87 hi hz0 hz1 hz2 rfl (by decide) _ _ _ rfl (hown.alloc _) ⟨wr.heap.size, 0, none⟩ 2 2 (u8s [92, 34]) rfl rfl (lit_cells _ _ _) (u8s_one _) hm hm2 (by simp; omega) ?_; intro v2 w2 hown2 hgrow2 _; refine Hid.out ?_))
        refine Lib.hid ?_
        have hnx2 : Below w.heap.size w w2 := (hnx.alloc hwz _).grown hgrow2 (by simp; omega) (fun k hk => (hown.lt k hk).1)
        go_wp2
        go_roundw
        case rel => exact ⟨k + 1, by omega, by go_num, by rw [HS.out, He.out, List.length_append, ← Nat.add_assoc]; simpa [u8s] using hown2, hnx2⟩
        case measure => simp [intOf]; omega
      · have hm : 1 + (escL (s.data.toList.take k)).length + 2 ≤ maxLen := by unfold maxLen; omega
        have hm2 : (1 + (escL (s.data.toList.take k)).length + 2) * 1 ≤ 140737488355328 := by omega
        have He : Hid (escI s[k].toNat = [92, 92]) := by show _ = _; rw [hc]; rfl
        have b0 : ((s[k].toNat : Int) == 34) = false := by simp; omega
        have b1 : ((s[k].toNat : Int) == 92) = true := by rw [hc]; rfl
        go_wp2_with (first | (go_at_call 76; refine (hex_r _ (by first | assumption | omega) (by first | assumption | omega) _).mono ?_; rintro e w' ⟨rfl, hw⟩; obtain rfl := hw.symm) | (at_builtin; refine wpList_append_own _ rfl _ _ 87 rfl w.heap.size 5 i0 (.int .u8 0) 1 1 Tryz.underlying87 hi hz0 hz1 hz2 rfl (by decide) _ _ _ rfl (hown.alloc _) ⟨wr.heap.size, 0, none⟩ 2 2 (u8s [92, 92]) rfl rfl (lit_cells _ _ _) (u8s_one _) hm hm2 (by simp; omega) ?_; intro v2 w2 hown2 hgrow2 _; refine Hid.out ?_))
        refine Lib.hid ?_
        have hnx2 : Below w.heap.size w w2 := (hnx.alloc hwz _).grown hgrow2 (by simp; omega) (fun k hk => (hown.lt k hk).1)
        go_wp2
        go_roundw
        case rel => exact ⟨k + 1, by omega, by go_num, by rw [HS.out, He.out, List.length_append, ← Nat.add_assoc]; simpa [u8s] using hown2, hnx2⟩
        case measure => simp [intOf]; omega
      · have hm : 1 + (escL (s.data.toList.take k)).length + 2 ≤ maxLen := by unfold maxLen; omega
        have hm2 : (1 + (escL (s.data.toList.take k)).length + 2) * 1 ≤ 140737488355328 := by omega
        have He : Hid (escI s[k].toNat = [92, 110]) := by show _ = _; rw [hc]; rfl
        have b0 : ((s[k].toNat : Int) == 34) = false := by simp; omega
        have b1 : ((s[k].toNat : Int) == 92) = false := by simp; omega
        have b2 : ((s[k].toNat : Int) == 10) = true := by rw [hc]; rfl
        go_wp2_with (first | (go_at_call 76; refine (hex_r _ (by first | assumption | omega) (by first | assumption | omega) _).mono ?_; rintro e w' ⟨rfl, hw⟩; obtain rfl := hw.symm) | (at_builtin; refine wpList_append_own _ rfl _ _ 87 rfl w.heap.size 5 i0 (.int .u8 0) 1 1 Tryz.underlying87 hi hz0 hz1 hz2 rfl (by decide) _ _ _ rfl (hown.alloc _) ⟨wr.heap.size, 0, none⟩ 2 2 (u8s [92, 110]) rfl rfl (lit_cells _ _ _) (u8s_one _) hm hm2 (by simp; omega) ?_; intro v2 w2 hown2 hgrow2 _; refine Hid.out ?_))
        refine Lib.hid ?_
        have hnx2 : Below w.heap.size w w2 := (hnx.alloc hwz _).grown hgrow2 (by simp; omega) (fun k hk => (hown.lt k hk).1)
        go_wp2
        go_roundw
        case rel => exact ⟨k + 1, by omega, by go_num, by rw [HS.out, He.out, List.length_append, ← Nat.add_assoc]; simpa [u8s] using hown2, hnx2⟩
        case measure => simp [intOf]; omega
      · have hm : 1 + (escL (s.data.toList.take k)).length + 2 ≤ maxLen := by unfold maxLen; omega
        have hm2 : (1 + (escL (s.data.toList.take k)).length + 2) * 1 ≤ 140737488355328 := by omega
        have He : Hid (escI s[k].toNat = [92, 116]) := by show _ = _; rw [hc]; rfl
        have b0 : ((s[k].toNat : Int) == 34) = false := by simp; omega
        have b1 : ((s[k].toNat : Int) == 92) = false := by simp; omega
        have b2 : ((s[k].toNat : Int) == 10) = false := by simp; omega
        have b3 : ((s[k].toNat : Int) == 9) = true := by rw [hc]; rfl
        go_wp2_with (first | (go_at_call 76; refine (hex_r _ (by first | assumption | omega) (by first | assumption | omega) _).mono ?_; rintro e w' ⟨rfl, hw⟩; obtain rfl := hw.symm) | (at_builtin; refine wpList_append_own _ rfl _ _ 87 rfl w.heap.size 5 i0 (.int .u8 0) 1 1 Tryz.underlying87 hi hz0 hz1 hz2 rfl (by decide) _ _ _ rfl (hown.alloc _) ⟨wr.heap.size, 0, none⟩ 2 2 (u8s [92, 116]) rfl rfl (lit_cells _ _ _) (u8s_one _) hm hm2 (by simp; omega) ?_; intro v2 w2 hown2 hgrow2 _; refine Hid.out ?_))
        refine Lib.hid ?_
        have hnx2 : Below w.heap.size w w2 := (hnx.alloc hwz _).grown hgrow2 (by simp; omega) (fun k hk => (hown.lt k hk).1)
        go_wp2
        go_roundw
        case rel => exact ⟨k + 1, by omega, by go_num, by rw [HS.out, He.out, List.length_append, ← Nat.add_assoc]; simpa [u8s] using hown2, hnx2⟩
        case measure => simp [intOf]; omega
      · have hm : 1 + (escL (s.data.toList.take k)).length + 1 ≤ maxLen := by unfold maxLen; omega
        have hm2 : (1 + (escL (s.data.toList.take k)).length + 1) * 1 ≤ 140737488355328 := by omega
        have He : Hid (escI s[k].toNat = [(s[k].toNat : Int)]) := by show _ = _; unfold escI; rw [if_neg (by omega), if_neg (by omega), if_neg (by omega), if_neg (by omega)]
        have b0 : ((s[k].toNat : Int) == 34) = false := by simp; omega
        have b1 : ((s[k].toNat : Int) == 92) = false := by simp; omega
        have b2 : ((s[k].toNat : Int) == 10) = false := by simp; omega
        have b3 : ((s[k].toNat : Int) == 9) = false := by simp; omega
        have d0 : decide (32 ≤ (s[k].toNat : Int)) = true := by simp; omega
        have d1 : decide ((s[k].toNat : Int) ≤ 126) = true := by simp; omega
        go_wp2_with (first | (go_at_call 76; refine (hex_r _ (by first | assumption | omega) (by first | assumption | omega) _).mono ?_; rintro e w' ⟨rfl, hw⟩; obtain rfl := hw.symm) | (at_builtin; refine wpList_append_own _ rfl _ _ 87 rfl w.heap.size 5 i0 (.int .u8 0) 1 1 Tryz.underlying87 hi hz0 hz1 hz2 rfl (by decide) _ _ _ rfl (hown.alloc _) ⟨wr.heap.size, 0, none⟩ 1 1 (u8s [(s[k].toNat : Int)]) rfl rfl (lit_cells _ _ _) (u8s_one _) hm hm2 (by simp; omega) ?_; intro v2 w2 hown2 hgrow2 _; refine Hid.out ?_))
        refine Lib.hid ?_
        have hnx2 : Below w.heap.size w w2 := (hnx.alloc hwz _).grown hgrow2 (by simp; omega) (fun k hk => (hown.lt k hk).1)
        go_wp2
        go_roundw
        case rel => exact ⟨k + 1, by omega, by go_num, by rw [HS.out, He.out, List.length_append, ← Nat.add_assoc]; simpa [u8s] using hown2, hnx2⟩
        case measure => simp [intOf]; omega
      · have hm : 1 + (escL (s.data.toList.take k)).length + 4 ≤ maxLen := by unfold maxLen; omega
        have hm2 : (1 + (escL (s.data.toList.take k)).length + 4) * 1 ≤ 140737488355328 := by omega
        have He : Hid (escI s[k].toNat = [92, 120, hexd ((s[k].toNat : Int) / 16), hexd ((s[k].toNat : Int) % 16)]) := by show _ = _; unfold escI; rw [if_neg (by omega), if_neg (by omega), if_neg (by omega), if_pos (by omega)]
        have b0 : ((s[k].toNat : Int) == 34) = false := by simp; omega
        have b1 : ((s[k].toNat : Int) == 92) = false := by simp; omega
        have b2 : ((s[k].toNat : Int) == 10) = false := by simp; omega
        have b3 : ((s[k].toNat : Int) == 9) = false := by simp; omega
        have d0 : decide (32 ≤ (s[k].toNat : Int)) = false := by simp; omega
        have q1 : 0 ≤ (s[k].toNat : Int) / 16 := by omega
        have q2 : (s[k].toNat : Int) / 16 < 16 := by omega
        have q3 : 0 ≤ (s[k].toNat : Int) % 16 := by omega
        have q4 : (s[k].toNat : Int) % 16 < 16 := by omega
        go_wp2_with (first | (go_at_call 76; refine (hex_r _ (by first | assumption | omega) (by first | assumption | omega) _).mono ?_; rintro e w' ⟨rfl, hw⟩; obtain rfl := hw.symm) | (at_builtin; refine wpList_append_own _ rfl _ _ 87 rfl w.heap.size 5 i0 (.int .u8 0) 1 1 Tryz.underlying87 hi hz0 hz1 hz2 rfl (by decide) _ _ _ rfl (hown.alloc _) ⟨wr.heap.size, 0, none⟩ 4 4 (u8s [92, 120, hexd ((s[k].toNat : Int) / 16), hexd ((s[k].toNat : Int) % 16)]) rfl rfl (lit_cells _ _ _) (u8s_one _) hm hm2 (by simp; omega) ?_; intro v2 w2 hown2 hgrow2 _; refine Hid.out ?_))
        refine Lib.hid ?_
        have hnx2 : Below w.heap.size w w2 := (hnx.alloc hwz _).grown hgrow2 (by simp; omega) (fun k hk => (hown.lt k hk).1)
        go_wp2
        go_roundw
        case rel => exact ⟨k + 1, by omega, by go_num, by rw [HS.out, He.out, List.length_append, ← Nat.add_assoc]; simpa [u8s] using hown2, hnx2⟩
        case measure => simp [intOf]; omega
      · have hm : 1 + (escL (s.data.toList.take k)).length + 4 ≤ maxLen := by unfold maxLen; omega
        have hm2 : (1 + (escL (s.data.toList.take k)).length + 4) * 1 ≤ 140737488355328 := by omega
        have He : Hid (escI s[k].toNat = [92, 120, hexd ((s[k].toNat : Int) / 16), hexd ((s[k].toNat : Int) % 16)]) := by show _ = _; unfold escI; rw [if_neg (by omega), if_neg (by omega), if_neg (by omega), if_pos (by omega)]
        have b0 : ((s[k].toNat : Int) == 34) = false := by simp; omega
        have b1 : ((s[k].toNat : Int) == 92) = false := by simp; omega
        have b2 : ((s[k].toNat : Int) == 10) = false := by simp; omega
        have b3 : ((s[k].toNat : Int) == 9) = false := by simp; omega
        have d0 : decide (32 ≤ (s[k].toNat : Int)) = true := by simp; omega
        have d1 : decide ((s[k].toNat : Int) ≤ 126) = false := by simp; omega
        have q1 : 0 ≤ (s[k].toNat : Int) / 16 := by omega
        have q2 : (s[k].toNat : Int) / 16 < 16 := by omega
        have q3 : 0 ≤ (s[k].toNat : Int) % 16 := by omega
        have q4 : (s[k].toNat : Int) % 16 < 16 := by omega
        go_wp2_with (first | (go_at_call 76; refine (hex_r _ (by first | assumption | omega) (by first | assumption | omega) _).mono ?_; rintro e w' ⟨rfl, hw⟩; obtain rfl := hw.symm) | (at_builtin; refine wpList_append_own _ rfl _ _ 87 rfl w.heap.size 5 i0 (.int .u8 0) 1 1 Tryz.underlying87 hi hz0 hz1 hz2 rfl (by decide) _ _ _ rfl (hown.alloc _) ⟨wr.heap.size, 0, none⟩ 4 4 (u8s [92, 120, hexd ((s[k].toNat : Int) / 16), hexd ((s[k].toNat : Int) % 16)]) rfl rfl (lit_cells _ _ _) (u8s_one _) hm hm2 (by simp; omega) ?_; intro v2 w2 hown2 hgrow2 _; refine Hid.out ?_))
        refine Lib.hid ?_
        have hnx2 : Below w.heap.size w w2 := (hnx.alloc hwz _).grown hgrow2 (by simp; omega) (fun k hk => (hown.lt k hk).1)
        go_wp2
        go_roundw
        case rel => exact ⟨k + 1, by omega, by go_num, by rw [HS.out, He.out, List.length_append, ← Nat.add_assoc]; simpa [u8s] using hown2, hnx2⟩
        case measure => simp [intOf]; omega
    · have hkk : k = s.size := by omega
      have ht : s.data.toList.take k = s.data.toList := List.take_of_length_le (by simp; omega)
      rw [ht] at hown hel
      have hlen : s.data.toList.length = s.size := by simp
      clear ht htl
      have hm1 : 1 + (escL s.data.toList).length + 1 ≤ maxLen := by unfold maxLen; omega
      have HK := Lib.hid hkk
      clear hkk
      go_wp2_with (at_builtin; refine wpList_append_own _ rfl _ _ 87 rfl w.heap.size 5 i0 (.int .u8 0) 1 1 Tryz.underlying87 hi hz0 hz1 hz2 rfl (by decide) _ _ _ rfl (hown.alloc _) ⟨wr.heap.size, 0, none⟩ 1 1 (u8s [34]) rfl rfl (lit_cells _ _ _) (u8s_one _) hm1 (by omega) (by simp; omega) ?_; intro v2 w2 hown2 hgrow2 _; refine Hid.out ?_)
      refine Lib.hid ?_
      have hnx2 : Below w.heap.size w w2 := (hnx.alloc hwz _).grown hgrow2 (by simp; omega) (fun k hk => (hown.lt k hk).1)
      have eL : u8s (34 :: escL s.data.toList) ++ u8s [34] = Lib.byteCells (quoteL s.data.toList) := by
        rw [show quoteL s.data.toList = bytesOf (34 :: (escL s.data.toList ++ [34])) from rfl, ← u8s_bytes (quote_in _)]
        simp [u8s]
      have eN : 1 + (escL s.data.toList).length + 1 = (quoteL s.data.toList).length := by rw [quoteL_len]; omega
      rw [eL, eN] at hown2
      have hpos : 0 < (quoteL s.data.toList).length := by rw [quoteL_len]; omega
      obtain ⟨l, hl⟩ : ∃ l, l = quoteL s.data.toList := ⟨_, rfl⟩
      rw [← hl] at hown2 hpos
      have HL := Lib.hid hl
      clear hl eL eN hown hm1 hel hlen
      obtain ⟨g, cap, rfl, -, -⟩ := hown2.form hpos
      have hcv := run_convert_bytes_back (P := Tryz.prog) w2 87 9 5 ⟨g, 0, none⟩ cap l Tryz.underlying87 Tryz.underlying5 Tryz.underlying9 (fun j hj => hown2.cells (g := g) rfl j _ (by simp [Lib.byteCells, hj]))
      go_wp2
      go_ret
      have hl := HL.out
      subst hl
      exact ⟨rfl, hnx2⟩
end Go.Proofs.YtkficmbkoinjjaaGreatDoor.V
