/- Contract of the laws' alike, where they are alike. -/
import Derived.Test.YtdafnkfnaknoiaaDoorS7
namespace Go.Proofs.YtdafnkfnaknoiaaDoor
open Go Go.RowKit
set_option maxHeartbeats 2000000
set_option linter.unusedVariables false
set_option linter.unusedSimpArgs false
set_option maxRecDepth 100000 in
theorem alike_any (pa pb : Option Addr) (ca cb : Nat) (La Lb : List Tok3) (w : World) (hA : TokAt w pa La) (hB : TokAt w pb Lb) (hlen : Lb.length = La.length + 1) (hmax : La.length ≤ 1000)
    (hk : ∀ i, i < La.length → ∃ x y : Tok3, La[i]? = some x ∧ Lb[i]? = some y ∧ y.1 = x.1 ∧ y.2.1 = x.2.1) (hend : (Lb[La.length]'(by omega)).1 = 5 ∧ (Lb[La.length]'(by omega)).2.1 = ⟨#[]⟩) :
    Calls Tryd.prog 12 #[.slice pa La.length ca, .slice pb Lb.length cb] w fun e w' => e = .returned (.bool true) ∧ Below w.heap.size w w' := by
  obtain ⟨bb, bo, rfl, d0, d1, d2⟩ := hB La.length (by omega)
  clear d2
  rw [hend.1] at d0
  rw [hend.2] at d1
  have HA := Lib.hid hA
  have HB := Lib.hid hB
  have HK := Lib.hid hk
  have HLN := Lib.hid hlen
  obtain ⟨n, hn⟩ : ∃ n, n = La.length := ⟨_, rfl⟩
  rw [hlen]
  rw [← hn] at d0 d1 hmax ⊢
  have HN := Lib.hid hn
  clear hA hB hk hlen hend hn
  have v1 : (n : Int) < (n : Int) + 1 := by omega
  have v2 : (n : Int) + 1 ≤ 2000 := by omega
  go_enter Tryd.func12, Tryd.ntmps12
  go_wp2
  go_loopw [5] (fun iv wr => ∃ i k : Nat, i ≤ n ∧ iv = .int .i64 i ∧ wr = w.drewN k) (fun iv _ => n - (intOf iv).toNat)
  case atStart => exact ⟨0, 0, Nat.zero_le _, rfl, rfl⟩
  case round =>
    clear d0 d1
    obtain ⟨i, k, hi, rfl, rfl⟩ := hrel
    by_cases hlt : i < n
    · have hiL : i < La.length := by rw [← show n = _ from HN.out]; exact hlt
      obtain ⟨x, y, hx, hy, e1, e2⟩ := HK.out i hiL
      have hiB : i < Lb.length := by rw [HLN.out]; omega
      obtain ⟨ab, ao, rfl, a0, a1, _⟩ := HA.out i hiL
      obtain ⟨bb', bo', hbb, b0, b1, _⟩ := HB.out i hiB
      simp only [Option.some.injEq, Addr.mk.injEq, and_true] at hbb
      obtain ⟨rfl, rfl⟩ := hbb
      have ex : La[i] = x := by rw [List.getElem?_eq_getElem hiL] at hx; exact Option.some.inj hx
      have ey : Lb[i] = y := by rw [List.getElem?_eq_getElem hiB] at hy; exact Option.some.inj hy
      rw [ex] at a0 a1
      rw [ey, e1] at b0
      rw [ey, e2] at b1
      have v3 : (i : Int) < (n : Int) := by omega
      have v4 : (i : Int) < (n : Int) + 1 := by omega
      have v5 : (0 : Int) ≤ (i : Int) := by omega
      obtain ⟨xk, xs, xa⟩ := x
      clear ex ey hx hy e1 e2
      go_wp2
      go_quiet (fail)
      go_wp2
      go_roundw
      case rel => exact ⟨i + 1, _, by omega, by go_num, rfl⟩
      case measure => simp [intOf]; omega
    · go_wp2
      go_ret
      exact ⟨rfl, below_drewN (Below.refl _ _) _⟩
end Go.Proofs.YtdafnkfnaknoiaaDoor
