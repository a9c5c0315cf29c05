/- Contract of the laws' own first look, 'begun': it answers true in every world that holds what the program's start lays. -/
import Derived.Test.YtcjibjiojgikjaaDoorR1
import Derived.Test.YtcjibjiojgikjaaDoorL5
import Derived.WalkKit
import Derived.WalkSpells
import Derived.WalkLawsBesides
import Derived.Lib.Hide
namespace Go.Proofs.YtcjibjiojgikjaaDoor
open Go Go.RowKit
set_option maxHeartbeats 400000
set_option linter.unusedVariables false
set_option linter.unusedSimpArgs false
attribute [local go_sem ↓] run_eql_V run_neq_V
/-- what the calls want of a world: the table of rules, the library's table and errors -/
structure Inv (w : World) : Prop where
  rules : Rules w
  pow : PowTab w
  errs : ErrVars w
theorem Inv.below {w w' : World} (h : Inv w) (hb : Below w.heap.size w w') : Inv w' := ⟨h.rules.below hb, h.pow.below hb, h.errs.below hb⟩
theorem i64_small {n : Int} (h : -1000 ≤ n ∧ n ≤ 1000) : I64 n := by unfold I64; omega
theorem itoa_m12 : Lib.itoa (-12) = [45, 49, 50] := by
  rw [show (-12 : Int) = -((12 : Nat) : Int) from rfl, Lib.itoa_neg 12 (by omega), Lib.decDigits_two (by omega) (by omega)]
  rfl
theorem show12 (w : World) (h : Inv w) : Calls Tryd.prog 12 #[.agg #[.int .i64 1, .int .i64 (-12), .string ⟨#[]⟩, .bool false]] w fun e w' => e = .returned (.tuple #[.string ⟨#[45, 49, 50]⟩, .int .i64 0]) ∧ Below w.heap.size w w' :=
  show_sh 1 (-12) ⟨#[]⟩ false (i64_small (by omega)) ⟨#[45, 49, 50]⟩ (by rw [showT_1 (valid_mk1 _), itoa_m12]) 0 (by unfold showE; rw [valid_mk1]; rfl) w h.pow
theorem bin23E : binE 3 1 2 ⟨#[]⟩ false 1 3 ⟨#[]⟩ false = 0 := by
  unfold binE
  rw [if_neg (by omega), if_pos ⟨valid_mk1 _, valid_mk1 _⟩, if_neg (by decide)]
theorem bin23 (w : World) (h : Inv w) : Calls Tryd.prog 20 #[.int .i64 3, .agg #[.int .i64 1, .int .i64 2, .string ⟨#[]⟩, .bool false], .agg #[.int .i64 1, .int .i64 3, .string ⟨#[]⟩, .bool false]] w
    fun e w' => e = .returned (.tuple #[.agg #[.int .i64 1, .int .i64 5, .string ⟨#[]⟩, .bool false], .int .i64 0]) ∧ Below w.heap.size w w' := by
  have := binary_any w h.rules 3 1 2 ⟨#[]⟩ false 1 3 ⟨#[]⟩ false
  have e : binV 3 1 2 ⟨#[]⟩ false 1 3 ⟨#[]⟩ false = (1, 5, ⟨#[]⟩, false) := by
    unfold binV
    have h5 : reckonI 3 2 3 = 5 := by
      unfold reckonI
      rw [if_neg (by omega), if_pos rfl]
      unfold wrap64
      omega
    rw [if_pos bin23E, if_pos (by omega), h5]
  rw [e, bin23E] at this
  exact this
theorem readA (w : World) (h : Inv w) : Calls Tryd.prog 14 #[.string ⟨#[34, 97, 34]⟩] w fun e w' => e = .returned (.tuple #[.agg #[.int .i64 2, .int .i64 0, .string ⟨#[97]⟩, .bool false], .int .i64 0]) ∧ Below w.heap.size w w' := by
  have hv2 : valid 2 0 ⟨#[97]⟩ false = true := valid_mk2 _ (by decide)
  have ht : showT 2 0 ⟨#[97]⟩ false = [34, 97, 34] := by rw [showT_2 hv2]; rfl
  refine (read_any ⟨#[34, 97, 34]⟩ w h.errs h.pow).mono ?_
  rintro e w' ⟨K, N, S, T, E, he, hb, hx⟩
  refine ⟨?_, hb⟩
  rcases hx with ⟨rfl, hv, hn, hs⟩ | ⟨_, _, _, _, _, hno⟩
  · have := showT_inj hv hv2 hn i64_zero (by rw [hs, ht])
    obtain ⟨rfl, rfl, rfl, rfl⟩ := this
    exact he
  · exact absurd (show ([34, 97, 34] : List UInt8) = _ from ht.symm) (hno 2 0 ⟨#[97]⟩ false i64_zero hv2)
theorem valid5 (w : World) : Calls Tryd.prog 13 #[.agg #[.int .i64 1, .int .i64 5, .string ⟨#[]⟩, .bool false]] w fun e w' => e = .returned (.bool true) ∧ Below w.heap.size w w' := by
  have := valid_any 1 5 ⟨#[]⟩ false w
  rw [valid_mk1] at this
  exact this
theorem begun_any (w : World) (h : Inv w) : Calls Tryd.prog 11 #[] w fun e w' => e = .returned (.bool true) ∧ Below w.heap.size w w' := by
  have q1 : veq 1 5 ⟨#[]⟩ false 1 5 ⟨#[]⟩ false = true := veq_self _ _ _ _
  have q2 : veq 2 0 ⟨#[97]⟩ false 2 0 ⟨#[97]⟩ false = true := veq_self _ _ _ _
  have H := Lib.hid h
  clear h
  go_enter Tryd.func11, Tryd.ntmps11
  go_wp2_with fail
  refine (show12 _ H.out).mono ?_
  rintro e w1 ⟨rfl, hb1⟩
  go_wp2_with fail
  refine (bin23 _ (H.out.below hb1)).mono ?_
  rintro e w2 ⟨rfl, hb2⟩
  have hb12 : Below w.heap.size w w2 := hb1.trans (hb2.mono hb1.size)
  go_wp2_with fail
  refine (readA _ ((H.out.below hb12).below ((Below.refl _ _).alloc (Nat.le_refl _) _))).mono ?_
  rintro e w3 ⟨rfl, hb3⟩
  obtain ⟨hc3, hf3⟩ := bcell hb3
  have hz3 : w2.heap.size < w3.heap.size := by have := hb3.size; simp at this; omega
  have hb13 : Below w.heap.size w w3 := (hb12.alloc hb12.size _).trans (hb3.mono (by have := hb12.size; simp; omega))
  go_wp2_with fail
  refine (valid5 _).mono ?_
  rintro e w4 ⟨rfl, hb4⟩
  obtain ⟨hc4, hf4⟩ := bcell hb4
  have hz4 : w3.heap.size < w4.heap.size := by have := hb4.size; simp at this; omega
  have hz5 : w2.heap.size < w4.heap.size := by omega
  have hb14 : Below w.heap.size w w4 := (hb13.alloc hb13.size _).trans (hb4.mono (by have := hb13.size; simp; omega))
  go_wp2
  go_ret
  exact ⟨rfl, hb14⟩
end Go.Proofs.YtcjibjiojgikjaaDoor
