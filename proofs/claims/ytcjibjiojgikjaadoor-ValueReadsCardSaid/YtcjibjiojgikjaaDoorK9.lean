/- The walk of the law ValueReads. -/
import Derived.Test.YtcjibjiojgikjaaDoorSy
import Derived.Test.YtcjibjiojgikjaaDoorV3
import Derived.WalkKit
import Derived.WalkSpells
import Derived.WalkLawsBesides
import Derived.Lib.Hide
import Derived.LoopN
import Derived.LoopTactic
namespace Go.Proofs.YtcjibjiojgikjaaDoor.lawReads
open Go Go.ChangeShapes Go.WideShapes Go.ChangeAt Go.RowKit
set_option maxHeartbeats 4000000
set_option linter.unusedVariables false
set_option linter.unusedSimpArgs false
attribute [local go_sem ↓] run_eql_V run_neq_V
set_option maxRecDepth 100000 in
theorem walk (p : Option Addr) (len cap : Nat) (hl : len ≤ maxLen) (W : World) (hV : Texts W p len) (hI : Inv W) :
    Calls Tryd.prog 8 #[.slice p len cap] W fun e w' => e = .returned (.bool true) ∧ Below W.heap.size W w' := by
  have HV := Lib.hid hV
  have H0 : Hid (Ok W W) := Ok.start hI
  clear hV hI
  unfold maxLen at hl
  go_enter Tryd.func8, Tryd.ntmps8
  go_wp2_with (go_at_call 11; refine (begun_ok W _ H0.out).mono ?_; rintro e w' ⟨rfl, h⟩; refine Hid.out ?_)
  refine Lib.hid ?_
  go_wp2
  go_loopw [4] (fun i wr => ∃ k : Nat, k ≤ len ∧ i = .int .i64 k ∧ Ok W wr) (fun i _ => len - (intOf i).toNat)
  case atStart => exact ⟨0, Nat.zero_le _, rfl, h⟩
  case round =>
    obtain ⟨k, hk, rfl, hok⟩ := hrel
    by_cases hlt : k < len
    · obtain ⟨b, o, S0, rfl, c0⟩ := HV.out k hlt
      have z0 := lt_of_cell c0
      have HCL : Hid (∀ w, Ok W w → w.cell? ⟨b, o + k, none⟩ = some (.string S0)) := fun w hw => (hw.below.cell (p := ⟨b, o + k, none⟩) (by exact z0)).trans c0
      clear c0
      obtain ⟨K, N, S, T, E, hr1, hr2⟩ := both_read S0 W
      have HR1 := Lib.hid hr1
      have HR2 := Lib.hid hr2
      clear hr1 hr2
      have HK := Lib.hid hok
      have d0 := HCL.out _ hok
      clear hok
      go_wp2_with fail
      refine (HR1.out _ HK.out).mono ?_
      rintro e w1 ⟨rfl, hb1⟩
      have h1 := HK.out.on hb1
      have zb1 : b < w1.heap.size := Nat.lt_of_lt_of_le z0 h1.below.size
      have q1 : veq K N S T K N S T = true := veq_self _ _ _ _
      clear d0
      have d0 := HCL.out _ h1
      have H1 := Lib.hid h1
      clear h1 hb1
      go_wp2_with fail
      refine (HR2.out _ (H1.out.alloc _)).mono ?_
      rintro e w2 ⟨rfl, hb2⟩
      have h2 := (H1.out.alloc _).on hb2
      obtain ⟨hc2, hf2⟩ := bcell hb2
      have H2 := Lib.hid h2
      have hs2 : w1.heap.size < w2.heap.size := by have := hb2.size; simp at this; omega
      clear h2 hb2
      go_wp2
      go_roundw
      case rel => exact ⟨k + 1, by omega, by go_num, H2.out.alloc _⟩
      case measure => simp [intOf]; omega
    · have hkk : k = len := by omega
      subst hkk
      go_wp2
      go_ret
      exact ⟨rfl, hok.below⟩
end Go.Proofs.YtcjibjiojgikjaaDoor.lawReads
