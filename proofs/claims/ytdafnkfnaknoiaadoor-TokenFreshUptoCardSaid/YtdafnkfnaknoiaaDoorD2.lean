/- Contract of token.Scan. -/
import Derived.Test.YtdafnkfnaknoiaaDoorD1
import Derived.Lib.SmallJoins
namespace Go.Proofs.YtdafnkfnaknoiaaDoor
open Go Go.RowKit
set_option maxHeartbeats 1000000
set_option linter.unusedVariables false
set_option linter.unusedSimpArgs false
def ScanPost (X : Sc) (w : World) (e : Ending) (w' : World) : Prop := Below w.heap.size w w' ∧ match X with
  | .bad E q => E ≠ 0 ∧ e = .returned (.tuple #[.slice none 0 0, .int .i64 q, .int .i64 E])
  | .ok L => ∃ v, e = .returned (.tuple #[v, .int .i64 0, .int .i64 0]) ∧ w'.ownsRow w.heap.size 28 3 v L.length (tkCells L)
theorem rd_fresh (w : World) (T : ByteArray) : Rd (w.alloc (.cells #[.string T, .int .i64 0, .int .i64 0] 57)) w.heap.size T 0 0 :=
  ⟨by simp [go_sem], by simp [go_sem], by simp [go_sem], by simp [go_sem], by simp [go_sem]⟩
theorem scan_any (T : ByteArray) (w : World) (he : Errs w) : Calls Tryd.prog 9 #[.string T] w (ScanPost (scanL T.data.toList) w) := by
  have hTl : T.data.toList.length = T.size := by simp
  by_cases hT : T.size ≤ 4096
  · have HX : Hid (scanL T.data.toList = scanT 0 [] T.data.toList) := by show _ = _; unfold scanL; rw [if_neg (by omega)]
    have b0 : decide ((4096 : Int) < (T.size : Int)) = false := by simp; omega
    have HTK := Lib.hid (tokens_any w.heap.size T w (w.alloc (.cells #[.string T, .int .i64 0, .int .i64 0] 57)) (rd_fresh w T) hT ⟨he, (Below.refl _ _).alloc (Nat.le_refl _) _⟩ (Nat.le_refl _))
    obtain ⟨X, hX⟩ : ∃ X, X = scanT 0 [] T.data.toList := ⟨_, rfl⟩
    rw [← hX] at HTK HX
    rw [HX.out]
    have hb1 : (T.size : Int) ≤ 4096 := by omega
    clear he hX HX hTl
    go_enter Tryd.func9, Tryd.ntmps9
    go_wp2_with fail
    refine HTK.out.mono ?_
    rintro e w2 ⟨v, L, q, f, rfl, htk, hx⟩
    have HX := Lib.hid hx
    have HT := Lib.hid htk
    have hB : Below w.heap.size w w2 := by
      have h1 := htk.aft.g
      exact ⟨h1.os, h1.tape, h1.output, by have := h1.size; simp at this; omega, fun i hi => (h1.block i (by simp; omega) (by simp; omega)).trans (((Below.refl w.heap.size w).alloc (Nat.le_refl _) _).block i hi)⟩
    have HB := Lib.hid hB
    obtain ⟨c0, c1, c2, z1, z2⟩ := htk.aft.r
    clear htk hB hx
    rcases X with ⟨E, p⟩ | M
    · obtain ⟨rfl, rfl, hE⟩ := HX.out
      have bE : (f == 0) = false := by simpa using hE
      have bE2 : (f != 0) = true := by simpa using hE
      have HE := Lib.hid hE
      clear hE
      go_wp2
      go_quiet (fail)
      go_wp2
      go_ret3
      exact ⟨below_drewN HB.out _, HE.out, rfl⟩
    · obtain ⟨rfl, rfl⟩ := HX.out
      go_wp2
      go_ret3
      exact ⟨HB.out, _, rfl, Joins.ownsRow_le HT.out.own (by simp)⟩
  · have HX : Hid (scanL T.data.toList = .bad 2 0) := by show _ = _; unfold scanL; rw [if_pos (by omega)]
    have b0 : decide ((4096 : Int) < (T.size : Int)) = true := by simp; omega
    have b1 : (4096 : Int) < (T.size : Int) := by omega
    clear he hT hTl
    go_enter Tryd.func9, Tryd.ntmps9
    go_wp2
    go_ret3
    rw [HX.out]
    exact ⟨Below.refl _ _, by decide, rfl⟩
end Go.Proofs.YtdafnkfnaknoiaaDoor
