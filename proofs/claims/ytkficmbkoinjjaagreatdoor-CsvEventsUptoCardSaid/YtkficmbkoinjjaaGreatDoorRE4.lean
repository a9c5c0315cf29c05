/- Contract of the document's own answer's Show. -/
import Derived.WalkKit
import Derived.WalkSpells
import Derived.WalkLawsBesides
import Derived.Lib.Hide
import Derived.Test.YtkficmbkoinjjaaGreatDoorRE1
import Derived.Test.YtkficmbkoinjjaaGreatDoorRE2
import Derived.Test.YtkficmbkoinjjaaGreatDoorRE3
import Derived.Test.YtkficmbkoinjjaaGreatDoorVS1
namespace Go.Proofs.YtkficmbkoinjjaaGreatDoor.V
open Go Go.RowKit
set_option maxHeartbeats 1000000
set_option linter.unusedVariables false
set_option linter.unusedSimpArgs false
set_option maxRecDepth 100000 in
theorem show_r (k n : Int) (s : ByteArray) (b : Bool) (hn : I64 n) (w : World) : Calls Tryz.prog 39 #[.agg #[.int .i64 k, .int .i64 n, .string s, .bool b]] w (Shown k n s b w) := by
  have HA : Hid (∀ o w1, Below (w.alloc o).heap.size (w.alloc o) w1 → Below w.heap.size w w1) := fun o w1 h => ((Below.refl _ _).alloc (Nat.le_refl _) _).trans (h.mono (by simp))
  cases hv : valid k n s b
  · have e1 : Hid (showT k n s b = []) := by show _ = _; unfold showT; rw [hv]; rfl
    have e2 : Hid (showE k n s b = 12) := by show _ = _; unfold showE; rw [hv]; rfl
    go_enter Tryz.func39, Tryz.ntmps39
    go_wp2_with fail
    refine (valid_r _ _ _ _ _).mono ?_
    rw [hv]
    rintro e w1 ⟨rfl, hb1⟩
    go_wp2
    refine bodyPost_ret (v := .tuple #[.string ⟨#[]⟩, .int .i64 12]) (by simp [results, Tryz.results39, go_sem]) rfl ?_
    exact ⟨by rw [e1.out, e2.out], HA.out _ _ hb1⟩
  · have e2 : Hid (showE k n s b = 0) := by show _ = _; unfold showE; rw [hv]; rfl
    rcases valid_kind hv with rfl | rfl | rfl
    · have e1 : Hid (showT 1 n s b = Lib.itoa n) := showT_1 hv
      by_cases hneg : n < 0
      · obtain ⟨m, rfl⟩ : ∃ m : Nat, n = -(m : Int) := ⟨n.natAbs, by omega⟩
        have hm1 : 1 ≤ m := by omega
        have hm2 : m ≤ 9223372036854775808 := by have := hn.1; omega
        have e3 : Hid (Lib.itoa (-(m : Int)) = 45 :: Lib.decDigits m) := Lib.itoa_neg m hm1
        have hl : (Lib.decDigits m).length ≤ 20 := dec_len 19 m (by omega)
        clear hn
        go_enter Tryz.func39, Tryz.ntmps39
        go_wp2_with fail
        refine (valid_r _ _ _ _ _).mono ?_
        rw [hv]
        rintro e w1 ⟨rfl, hb1⟩
        obtain ⟨hc1, hf1⟩ := bcell hb1
        have HB1 := Lib.hid hb1
        clear hb1
        go_wp2_with fail
        rw [show (-(-(m : Int) + 1) + 1) = (m : Int) by omega]
        refine (digits_r m (by omega) _).mono ?_
        rintro e w2 ⟨rfl, hb2⟩
        have HB2 := Lib.hid hb2
        clear hb2
        obtain ⟨ds, hds⟩ : ∃ ds : ByteArray, ds = ⟨(Lib.decDigits m).toArray⟩ := ⟨_, rfl⟩
        have hz : ds.size ≤ 20 := by rw [hds]; show (Lib.decDigits m).toArray.size ≤ 20; simpa using hl
        have HDS := Lib.hid hds
        rw [← hds]
        clear hds hl
        go_wp2
        refine bodyPost_ret (v := .tuple #[.string (⟨#[45]⟩ ++ ds), .int .i64 0]) (by simp [results, Tryz.results39, go_sem]) rfl ?_
        refine ⟨?_, (HA.out _ _ HB1.out).trans (HB2.out.mono (HA.out _ _ HB1.out).size)⟩
        rw [e1.out, e2.out, e3.out, HDS.out]
        refine congrArg (fun x => Ending.returned (Value.tuple #[Value.string x, .int .i64 0])) (bytes_ext ?_)
        simp
      · obtain ⟨m, rfl⟩ : ∃ m : Nat, n = (m : Int) := ⟨n.toNat, by omega⟩
        have hm2 : m ≤ 9223372036854775807 := by have := hn.2; omega
        have e3 : Hid (Lib.itoa (m : Int) = Lib.decDigits m) := Lib.itoa_nonneg m
        clear hn
        go_enter Tryz.func39, Tryz.ntmps39
        go_wp2_with fail
        refine (valid_r _ _ _ _ _).mono ?_
        rw [hv]
        rintro e w1 ⟨rfl, hb1⟩
        obtain ⟨hc1, hf1⟩ := bcell hb1
        have HB1 := Lib.hid hb1
        clear hb1
        go_wp2_with fail
        refine (digits_r m (by omega) _).mono ?_
        rintro e w2 ⟨rfl, hb2⟩
        have HB2 := Lib.hid hb2
        clear hb2
        go_wp2
        refine bodyPost_ret (v := .tuple #[.string ⟨(Lib.decDigits m).toArray⟩, .int .i64 0]) (by simp [results, Tryz.results39, go_sem]) rfl ?_
        exact ⟨by rw [e1.out, e2.out, e3.out], (HA.out _ _ HB1.out).trans (HB2.out.mono (HA.out _ _ HB1.out).size)⟩
    · have hs := valid_two hv
      have e1 : Hid (showT 2 n s b = quoteL s.data.toList) := showT_2 hv
      go_enter Tryz.func39, Tryz.ntmps39
      go_wp2_with fail
      refine (valid_r _ _ _ _ _).mono ?_
      rw [hv]
      rintro e w1 ⟨rfl, hb1⟩
      obtain ⟨hc1, hf1⟩ := bcell hb1
      have HB1 := Lib.hid hb1
      clear hb1
      go_wp2_with fail
      refine (quoted_r s hs _).mono ?_
      rintro e w2 ⟨rfl, hb2⟩
      have HB2 := Lib.hid hb2
      clear hb2
      go_wp2
      refine bodyPost_ret (v := .tuple #[.string ⟨(quoteL s.data.toList).toArray⟩, .int .i64 0]) (by simp [results, Tryz.results39, go_sem]) rfl ?_
      exact ⟨by rw [e1.out, e2.out], (HA.out _ _ HB1.out).trans (HB2.out.mono (HA.out _ _ HB1.out).size)⟩
    · have e1 : Hid (showT 3 n s b = if b = true then [84, 82, 85, 69] else [70, 65, 76, 83, 69]) := showT_3 hv
      cases b
      all_goals
        go_enter Tryz.func39, Tryz.ntmps39
        go_wp2_with fail
        refine (valid_r _ _ _ _ _).mono ?_
        rw [hv]
        rintro e w1 ⟨rfl, hb1⟩
        obtain ⟨hc1, hf1⟩ := bcell hb1
        have HB1 := Lib.hid hb1
        clear hb1
        go_wp2
        first
        | (refine bodyPost_ret (v := .tuple #[.string ⟨#[84, 82, 85, 69]⟩, .int .i64 0]) (by simp [results, Tryz.results39, go_sem]) rfl ?_; exact ⟨by rw [e1.out, e2.out]; rfl, HA.out _ _ HB1.out⟩)
        | (refine bodyPost_ret (v := .tuple #[.string ⟨#[70, 65, 76, 83, 69]⟩, .int .i64 0]) (by simp [results, Tryz.results39, go_sem]) rfl ?_; exact ⟨by rw [e1.out, e2.out]; rfl, HA.out _ _ HB1.out⟩)
end Go.Proofs.YtkficmbkoinjjaaGreatDoor.V
