/- Contract of the document's own answer's digits. -/
import Derived.WalkKit
import Derived.WalkSpells
import Derived.WalkLawsBesides
import Derived.Lib.Hide
import Derived.LoopN
import Derived.LoopTactic
import Derived.Lib.ConvBytes
import Derived.Test.YtkficmbkoinjjaaGreatDoorVG2
namespace Go.Proofs.YtkficmbkoinjjaaGreatDoor.V
open Go Go.RowKit
set_option maxHeartbeats 400000
set_option linter.unusedVariables false
set_option linter.unusedSimpArgs false
theorem conv1 (w : World) (x : Nat) (y : Int) (hy : y = x) (h1 : x < 256) : (convert 87 9 (.slice (some ⟨w.heap.size, 0, none⟩) 1 1)).run Tryz.prog (w.alloc (Obj.cells #[.int .u8 y] 5)) = .ok (.string ⟨#[UInt8.ofNat x]⟩) (w.alloc (Obj.cells #[.int .u8 y] 5)) := by
  subst hy
  have e : ((UInt8.ofNat x).toNat : Int) = x := by
    have : x % 256 = x := Nat.mod_eq_of_lt h1
    simp [UInt8.toNat_ofNat']
    omega
  have := run_convert_bytes_back (P := Tryz.prog) (w.alloc (Obj.cells #[.int .u8 (x : Int)] 5)) 87 9 5 ⟨w.heap.size, 0, none⟩ 1 [UInt8.ofNat x] Tryz.underlying87 Tryz.underlying5 Tryz.underlying9 (fun j hj => by
    have : j = 0 := by simp at hj; omega
    subst this
    show (w.alloc (Obj.cells #[.int .u8 (x : Int)] 5)).cell? ⟨w.heap.size, 0, none⟩ = some (.int .u8 ((UInt8.ofNat x).toNat : Int))
    rw [e]
    simp [go_sem])
  exact this
theorem dec_len : ∀ (n u : Nat), u < 10 ^ (n + 1) → (Lib.decDigits u).length ≤ n + 1
  | 0, u, h => by
    rw [Lib.decDigits, dif_pos (by omega)]
    simp
  | n + 1, u, h => by
    by_cases hu : u < 10
    · rw [Lib.decDigits, dif_pos hu]
      simp
    · rw [decDigits_step u hu]
      have := dec_len n (u / 10) (by rw [Nat.pow_succ] at h; omega)
      simp
      exact this
set_option maxRecDepth 100000 in
theorem digits_r (u : Nat) (hu : u < 18446744073709551616) (w : World) : Calls Tryz.prog 60 #[.int .u64 u] w fun e w' => e = .returned (.string ⟨(Lib.decDigits u).toArray⟩) ∧ Below w.heap.size w w' := by
  have hlen : (Lib.decDigits u).length ≤ 20 := dec_len 19 u (by omega)
  go_enter Tryz.func60, Tryz.ntmps60
  go_wp2
  go_loopw [0, 3] (fun m t wr => ∃ (v : Nat) (s : ByteArray), m = .int .u64 v ∧ t = .string s ∧ Lib.decDigits u = Lib.decDigits v ++ s.data.toList ∧ v ≤ u ∧ s.size ≤ 20 ∧ Below w.heap.size w wr) (fun m _ _ => (intOf m).toNat)
  case atStart => exact ⟨u, ⟨#[]⟩, rfl, rfl, by simp, Nat.le_refl _, Nat.zero_le _, Below.refl _ _⟩
  case round =>
    obtain ⟨v, s, rfl, rfl, hd, hvu, hs, hb⟩ := hrel
    have hbz := hb.size
    by_cases h10 : v < 10
    · have HD := Lib.hid hd
      have hcv := conv1 wr (48 + v) (48 + (v : Int)) (by omega) (by omega)
      clear hd
      go_wp2
      go_ret
      refine ⟨?_, hb.alloc hbz _⟩
      have hd := HD.out
      rw [Lib.decDigits.eq_def v, dif_pos h10] at hd
      refine congrArg (fun x => Ending.returned (Value.string x)) (bytes_ext ?_)
      rw [hd]
      simp
    · have HD := Lib.hid hd
      have hcv := conv1 wr (48 + v % 10) (48 + (v : Int) % 10) (by omega) (by omega)
      clear hd
      go_wp2
      go_roundw
      case rel =>
        have hd' : Lib.decDigits u = Lib.decDigits (v / 10) ++ (⟨#[UInt8.ofNat (48 + v % 10)]⟩ ++ s : ByteArray).data.toList := by
          rw [HD.out, decDigits_step v h10]
          simp
        refine ⟨v / 10, _, by go_num, rfl, ?_, by omega, ?_, hb.alloc hbz _⟩
        · simpa using hd'
        · have := congrArg List.length hd'
          have h1 : ∀ x : UInt8, (⟨#[x]⟩ : ByteArray).size = 1 := fun _ => rfl
          simp [h1] at this ⊢
          omega
      case measure => simp [intOf]; omega
end Go.Proofs.YtkficmbkoinjjaaGreatDoor.V
