/- The walk of the law ValueScript. -/
import Derived.Test.YtcjibjiojgikjaaDoorPl
import Derived.Test.YtcjibjiojgikjaaDoorV4
import Derived.WalkKit
import Derived.WalkSpells
import Derived.WalkLawsBesides
import Derived.Lib.Hide
import Derived.LoopN
import Derived.LoopTactic
namespace Go.Proofs.YtcjibjiojgikjaaDoor.lawScript
open Go Go.ChangeShapes Go.WideShapes Go.ChangeAt Go.RowKit
set_option maxHeartbeats 4000000
set_option linter.unusedVariables false
set_option linter.unusedSimpArgs false
set_option maxRecDepth 100000 in
theorem walk (p : Option Addr) (len cap : Nat) (hl : len ≤ maxLen) (W : World) (hV : Steps W p len) (hI : Inv W) :
    Calls Tryd.prog 10 #[.slice p len cap] W fun e w' => e = .returned (.bool true) ∧ Below W.heap.size W w' := by
  have HV := Lib.hid hV
  have H0 : Hid (Ok W W) := Ok.start hI
  clear hV hI
  unfold maxLen at hl
  go_enter Tryd.func10, Tryd.ntmps10
  go_wp2_with (go_at_call 11; refine (begun_ok W _ H0.out).mono ?_; rintro e w' ⟨rfl, h⟩; refine Hid.out ?_)
  refine Lib.hid ?_
  go_wp2
  go_loopw [4, 5] (fun s i wr => ∃ (k : Nat) (last : ByteArray), k ≤ len ∧ i = .int .i64 k ∧ s = .string last ∧ Ok W wr) (fun _ i _ => len - (intOf i).toNat)
  case atStart => exact ⟨0, _, Nat.zero_le _, rfl, rfl, h⟩
  case round =>
    obtain ⟨k, last, hk, rfl, rfl, hok⟩ := hrel
    by_cases hlt : k < len
    · obtain ⟨b, o, kind, k1, n1, s1, b1, k2, n2, s2, b2, text, N, rfl, hn, hz, c0, c1, c2, c3, c4, c5, c6, c7, c8, c9, c10⟩ := HV.out k hlt
      have HN := Lib.hid hn
      have HZ := Lib.hid hz
      have HK := Lib.hid hok
      clear hn hz
      have z0 := lt_of_cell c0
      have up : ∀ j v, W.cell? ⟨b, o + k * 11 + j, none⟩ = some v → wr.cell? ⟨b, o + k * 11 + j, none⟩ = some v := fun j v hv => (hok.below.cell (p := ⟨b, o + k * 11 + j, none⟩) (by exact z0)).trans hv
      have x0 : wr.cell? ⟨b, o + k * 11, none⟩ = some _ := up 0 _ c0
      have x1 := up 1 _ c1
      have x2 := up 2 _ c2
      have x3 := up 3 _ c3
      have x4 := up 4 _ c4
      have x5 := up 5 _ c5
      have x6 := up 6 _ c6
      have x7 := up 7 _ c7
      have x8 := up 8 _ c8
      have x9 := up 9 _ c9
      have x10 := up 10 _ c10
      clear c0 c1 c2 c3 c4 c5 c6 c7 c8 c9 c10 up hok
      go_wp2_with fail
      refine (plays_ok kind k1 n1 s1 b1 k2 n2 s2 b2 text N last HN.out HZ.out W _ HK.out).mono ?_
      rintro e w1 ⟨l2, rfl, h1⟩
      have H1 := Lib.hid h1
      clear h1
      go_wp2
      go_roundw
      case rel => exact ⟨k + 1, l2, by omega, by go_num, rfl, H1.out⟩
      case measure => simp [intOf]; omega
    · have hkk : k = len := by omega
      subst hkk
      go_wp2
      go_ret
      exact ⟨rfl, hok.below⟩
end Go.Proofs.YtcjibjiojgikjaaDoor.lawScript
