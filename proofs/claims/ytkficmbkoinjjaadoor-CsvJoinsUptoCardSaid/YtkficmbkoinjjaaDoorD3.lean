/- The law's own marks. -/
import Derived.Test.YtkficmbkoinjjaaDoorD2
namespace Go.Proofs.YtkficmbkoinjjaaDoor
open Go Go.RowKit
set_option maxHeartbeats 4000000
set_option linter.unusedVariables false
set_option linter.unusedSimpArgs false
/-- the k-th mark -/
def wd (k : Nat) : Cell := [114, UInt8.ofNat (65 + k)]
theorem wd_inj {j k : Nat} (hj : j < 20) (hk : k < 20) (h : wd j = wd k) : j = k := by
  unfold wd at h
  simp only [List.cons.injEq, and_true, true_and] at h
  have := congrArg UInt8.toNat h
  simp at this
  omega
set_option maxRecDepth 100000 in
theorem word_any (k : Nat) (hk : k < 20) (w : World) : Calls Tryd.prog 25 #[.int .i64 k] w fun e w' => e = .returned (.string ⟨(wd k).toArray⟩) ∧ Below w.heap.size w w' := by
  have hl : ((UInt8.ofNat (65 + k)).toNat : Int) = 65 + (k : Int) := by
    have : (UInt8.ofNat (65 + k)).toNat = 65 + k := by simp; omega
    omega
  have hin : In (w.alloc (.cells #[.int .u8 114, .int .u8 (65 + (k : Int))] 5)) (some ⟨w.heap.size, 0, none⟩) (wd k) := by
    intro i hi
    refine ⟨_, 0, rfl, ?_⟩
    have hi2 : i < 2 := by simpa [wd] using hi
    have hc := lit_cells w [.int .u8 114, .int .u8 (65 + (k : Int))] 5 i
    rcases (show i = 0 ∨ i = 1 by omega) with rfl | rfl
    · simp [wd]
    · have := hc _ rfl
      rw [Addr.add_lit] at this
      rw [this]
      simp only [wd, List.getElem_cons_succ, List.getElem_cons_zero]
      rw [hl]
  have hcv := run_str hin 2
  have hb : Below w.heap.size w (w.alloc (.cells #[.int .u8 114, .int .u8 (65 + (k : Int))] 5)) := (Below.refl _ _).alloc (Nat.le_refl _) _
  have HB := Lib.hid hb
  simp only [show (wd k).length = 2 from rfl] at hcv
  clear hl hin hb
  go_enter Tryd.func25, Tryd.ntmps25
  go_wp2
  go_ret
  exact ⟨rfl, HB.out⟩
end Go.Proofs.YtkficmbkoinjjaaDoor
