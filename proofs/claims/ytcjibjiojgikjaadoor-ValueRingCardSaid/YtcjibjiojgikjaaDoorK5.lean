/- The law ValueRing is true of every three numbers: sums and products of package value wrap, whatever the order and the grouping. No condition but the row's own list of package-level variables, which the card ties to the program's text. -/
import Derived.Test.YtcjibjiojgikjaaDoorN2
import Derived.Test.YtcjibjiojgikjaaDoorW1
import Derived.WalkKit
import Derived.WalkSpells
import Derived.WalkLawsBesides
import Derived.ProofKit
import Derived.OpenShut
import Derived.Lib.Hide
import Derived.Deep.DeepHandedRow
import Derived.Deep.DeepWitnessRowRef
namespace Go.Proofs.YtcjibjiojgikjaaDoor.lawRing
open Go Go.ChangeShapes Go.WideShapes Go.ChangeAt Go.RowKit
set_option maxHeartbeats 1000000
set_option linter.unusedVariables false
set_option linter.unusedSimpArgs false
attribute [local go_sem ↓] run_eql_V run_neq_V
/-- the facts of the sums and products, as the law's tests ask for them -/
structure Facts (a b c : Int) : Prop where
  t1 : (reckonI 3 a b != reckonI 3 b a) = false
  t2 : (reckonI 3 (reckonI 3 a b) c != reckonI 3 a (reckonI 3 b c)) = false
  t3 : (reckonI 4 (reckonI 3 a b) b != a) = false
  t4 : (reckonI 5 a b != reckonI 5 b a) = false
  t5 : (reckonI 5 (reckonI 5 a b) c != reckonI 5 a (reckonI 5 b c)) = false
  t6 : (reckonI 5 a (reckonI 3 b c) == reckonI 3 (reckonI 5 a b) (reckonI 5 a c)) = true
  t7 : (reckonI 5 a 1 == a) = true
theorem facts (a b c : Int) (h0 : -9223372036854775808 ≤ a) (h1 : a ≤ 9223372036854775807) : Facts a b c :=
  ⟨by rw [ring_comm a b]; simp, by rw [ring_assoc]; simp, by rw [ring_back a b h0 h1]; simp, by rw [ring_mcomm a b]; simp, by rw [ring_massoc]; simp, by rw [ring_distr]; simp, by rw [ring_one a h0 h1]; simp⟩
set_option maxRecDepth 100000 in
theorem walk (a b c : Int) (hf : Facts a b c) (W : World) (hI : Inv W) : Calls Tryd.prog 5 #[.int .i64 a, .int .i64 b, .int .i64 c] W fun e w' => e = .returned (.bool true) ∧ Below W.heap.size W w' := by
  have h0 := Ok.start hI
  obtain ⟨t1, t2, t3, t4, t5, t6, t7⟩ := hf
  have q1 : veq 1 (reckonI 4 0 a) ⟨#[]⟩ false 1 (reckonI 4 0 a) ⟨#[]⟩ false = true := veq_self _ _ _ _
  have HB : ∀ w', Ok W w' → Below W.heap.size W w' := fun _ h => h.below
  have HBB := Lib.hid HB
  clear HB hI
  go_enter Tryd.func5, Tryd.ntmps5
  go_wp2_with (first | (go_at_call 11; refine (begun_ok W _ (by assumption)).mono ?_; rintro e w' ⟨rfl, h⟩) | (go_at_call 17; refine (of_any _ _ _ (by decide) W _ (by assumption)).mono ?_; rintro e w' ⟨rfl, h⟩) | (go_at_call 18; refine (un_neg _ W _ (by assumption)).mono ?_; rintro e w' ⟨rfl, h⟩))
  go_ret
  refine ⟨rfl, ?_⟩
  have hh := HBB.out _ (by assumption)
  exact hh.alloc hh.size _

set_option maxRecDepth 100000 in
theorem contract (H : Type) (enc : TypeId × Value → H) (W : World) (base : Nat) (args : Array Value) (ds gs : List (DataW H)) (before : List MemPlace)
    (hval : ∀ (j : Nat) t v, Tryd.f5.params[j]? = some t → args[j]? = some v → Value.okWide Tryd.prog W .any base t v)
    (hW : DataW.Whole enc Tryd.prog Tryd.f5.params.toList Rows.valueRingSpec.vars false W args.toList ds gs before) (hL : laidMetH Tryd.prog Rows.valueRingRow.laid W) :
    Calls Tryd.prog 5 args W fun e W' => ∃ v, e = .returned v ∧ Rows.valueRingSpec.post enc Tryd.prog Tryd.f5 false true false false W args v W' := by
  have hW' := hW
  obtain ⟨p, q, hA0, hV, rfl, hfz, hnd⟩ := hW
  have hA : DataW.TrodAll enc Tryd.prog W 0 (fun _ => true) true Tryd.f5.params.toList args.toList ds p := hA0
  rw [Tryd.params5] at hA hval
  obtain ⟨v0, v1, v2, d0, d1, d2, p0, p1, p2, rfl, rfl, rfl, h0, h1, h2⟩ := trodAll_three hA
  obtain ⟨rfl, rfl⟩ := trodVars_none hV
  obtain ⟨a, rfl, rfl, rfl, wa⟩ := open_int Tryd.underlying2 (hval 0 2 v0 rfl rfl) h0
  obtain ⟨b, rfl, rfl, rfl, wb⟩ := open_int Tryd.underlying2 (hval 1 2 v1 rfl rfl) h1
  obtain ⟨c, rfl, rfl, rfl, wc⟩ := open_int Tryd.underlying2 (hval 2 2 v2 rfl rfl) h2
  have ha := i64_of_wf wa
  refine (walk a b c (facts a b c ha.1 ha.2) W (inv_of_laid hL)).mono fun e W' ⟨he, hb⟩ => ⟨_, he, ?_⟩
  exact law_post hW' (by kernel_rfl) (by kernel_rfl) rfl (by rw [Tryd.params5]; intro t ht; simp at ht; subst ht; exact ⟨by kernel_rfl, of_decide_eq_true (by kernel_rfl)⟩) rfl hb

theorem reads (os : Os) {H : Type} (enc : TypeId × Value → H) : ∃ places, DataW.whole enc Tryd.prog ((laidWorld os).forCall (fun _ _ => 0) ⟨#[], #[.int .i64 0, .int .i64 0, .int .i64 0], []⟩).memory Tryd.f5.params.toList Rows.valueRingSpec.vars false #[Value.int .i64 0, .int .i64 0, .int .i64 0].toList 8 = some ([.lit (.int .i64 0), .lit (.int .i64 0), .lit (.int .i64 0)], [], places) :=
  ⟨[], by kernel_rfl⟩
set_option maxRecDepth 100000 in
theorem lifted (os : Os) (started : os.Started) (H : Type) (enc : TypeId × Value → H) (F : Stop.Interp) :
    ReturnsInHanded {} Tryd.checked os 5 .any ((OpenSpec.ofChange Rows.valueRingSpec).preRow enc Tryd.prog Tryd.f5 Rows.valueRingRow.domain false Rows.valueRingRow.laid) (((OpenSpec.ofChange Rows.valueRingSpec).at F).post enc Tryd.prog Tryd.f5 false true false false) := by
  obtain ⟨places, hx⟩ := reads os enc
  refine returnsInHanded_of_row (C := Tryd.checked) (s := OpenSpec.ofChange Rows.valueRingSpec) own started (by kernel_rfl) Tryd.func5
    (witness_row_atRef (enc := enc) (C := Tryd.checked) false (laidWorld os) #[.int .i64 0, .int .i64 0, .int .i64 0] rfl (by kernel_rfl) (by kernel_rfl) (by kernel_rfl)
      (OpenSpec.preRow_of_cond 8 hx (by kernel_rfl) (fun k hk => by cases hk) (by kernel_rfl) (laid_met os _))) ?_
  intro W base args ds gs before hval hW _ _ _ hL _ _
  exact contract H enc W base args ds gs before hval hW hL
theorem said : Rows.ValueRingSaid :=
  OpenClaim.holds_of_cond 5 Tryd.f5 rfl rfl rfl rfl rfl rfl rfl ⟨rfl, rfl, rfl, rfl, rfl⟩ rfl rfl rfl rfl rfl (by kernel_rfl) Tryd.func5 (by kernel_rfl)
    (of_decide_eq_true (by kernel_rfl)) (by unfold Func.isWrapper; first | (rw [if_pos (by decide +kernel)]; kernel_rfl) | (rw [if_neg (by decide +kernel)]; exact ⟨rfl, rfl⟩))
    (fun os started H enc _ F => by rw [OpenClaim.pre_eq_preRow]; exact lifted os started H enc F)
/-- No parameter wants a stand-in; the program's own looks are off. -/
theorem plain (f : FuncId) (fn : Func) (hf : Tryd.pinned.checked.prog.funcNamed Rows.valueRingRow.func = some f) (hfn : Tryd.pinned.checked.prog.funcs[f]? = some fn) :
    true = Tryd.pinned.checked.prog.looks [] ∧ ∀ (j : Nat) t, fn.params[j]? = some t → Tryd.pinned.checked.prog.wantsStandIn t = false := by
  obtain rfl : f = 5 := Option.some.inj ((show Tryd.prog.funcNamed Rows.valueRingRow.func = some 5 by kernel_rfl).symm.trans hf) |>.symm
  obtain rfl : fn = Tryd.f5 := (Option.some.inj (Tryd.func5.symm.trans hfn)).symm
  refine ⟨by kernel_rfl, fun j t ht => ?_⟩
  rw [Tryd.params5] at ht
  obtain rfl : t = 2 := by simpa using Array.mem_of_getElem? ht
  exact (show Tryd.prog.wantsStandIn 2 = false by kernel_rfl)
/-- The card. -/
theorem card : Rows.ValueRingCardSaid :=
  Claim7.holds_tied_plain_at .later [] _ _ _ _ said (fun _ h => by cases h) (by kernel_rfl) (fun _ h => by cases h) valueRing_row_tie rfl ⟨rfl, rfl⟩ (by kernel_rfl) rfl plain (by kernel_rfl)
end Go.Proofs.YtcjibjiojgikjaaDoor.lawRing
