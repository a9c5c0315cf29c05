/- Contracts of the laws' helpers part, decimal and value. -/
import Derived.Test.YtpfpganlghjhjaaDoorA3
import Derived.Test.YtpfpganlghjhjaaDoorN1
import Derived.Lib.ConvBytes
namespace Go.Proofs.YtpfpganlghjhjaaDoor
open Go Go.RowKit
set_option maxHeartbeats 1000000
set_option linter.unusedVariables false
set_option linter.unusedSimpArgs false
theorem emod_neg {k n : Int} (hn : 0 < n) (h0 : k.tmod n < 0) : k % n = k.tmod n + n := by
  rw [Int.emod_eq_tmod]
  split
  · rename_i h
    exfalso
    rcases h with h | h
    · have := Int.tmod_nonneg n h
      omega
    · rw [Int.tmod_eq_zero_of_dvd h] at h0
      omega
  · rw [Int.natAbs_of_nonneg (by omega)]
theorem emod_pos {k n : Int} (hn : 0 < n) (h0 : ¬ k.tmod n < 0) : k % n = k.tmod n := by
  rw [Int.emod_eq_tmod]
  split
  · simp
  · rename_i h
    exfalso
    have h1 : k < 0 := by omega
    have h2 : k.tmod n ≤ 0 := by
      have := Int.tmod_nonneg (a := -k) n (by omega)
      rw [Int.neg_tmod] at this
      omega
    have h3 : k.tmod n = 0 := by omega
    exact h (.inr (Int.dvd_of_tmod_eq_zero h3))
theorem wrap_id {x : Int} (h0 : -9223372036854775808 ≤ x) (h1 : x ≤ 9223372036854775807) : wrap64 x = x := by unfold wrap64; omega
theorem part_any (k n : Int) (hn : 0 < n ∧ n ≤ 1000000000000000000) (w : World) : Calls Tryd.prog 11 #[.int .i64 k, .int .i64 n] w fun e w' => e = .returned (.int .i64 (k % n)) ∧ w' = w := by
  have hne : (n == 0) = false := by simp; omega
  by_cases h0 : k.tmod n < 0
  · have HE : Hid (wrap64 (k.tmod n + n) = k % n) := by
      show _ = _
      rw [← emod_neg hn.1 h0]
      have h1 := Int.emod_nonneg k (b := n) (by omega)
      have h2 := Int.emod_lt_of_pos k hn.1
      exact wrap_id (by omega) (by omega)
    go_enter Tryd.func11, Tryd.ntmps11
    go_wp2
    go_ret
    exact ⟨by rw [← HE.out]; rfl, by first | rfl | trivial⟩
  · have HE : Hid (k % n = k.tmod n) := emod_pos hn.1 h0
    go_enter Tryd.func11, Tryd.ntmps11
    go_wp2
    go_ret
    exact ⟨by rw [HE.out]; rfl, by first | rfl | trivial⟩
theorem conv1 (w : World) (x : Nat) (y : Int) (hy : y = x) (h1 : x < 256) : (convert 43 9 (.slice (some ⟨w.heap.size, 0, none⟩) 1 1)).run Tryd.prog (w.alloc (Obj.cells #[.int .u8 y] 5)) = .ok (.string ⟨#[UInt8.ofNat x]⟩) (w.alloc (Obj.cells #[.int .u8 y] 5)) := by
  subst hy
  have e : ((UInt8.ofNat x).toNat : Int) = x := by
    have : x % 256 = x := Nat.mod_eq_of_lt h1
    simp [UInt8.toNat_ofNat']
    omega
  have := run_convert_bytes_back (P := Tryd.prog) (w.alloc (Obj.cells #[.int .u8 (x : Int)] 5)) 43 9 5 ⟨w.heap.size, 0, none⟩ 1 [UInt8.ofNat x] Tryd.underlying43 Tryd.underlying5 Tryd.underlying9 (fun j hj => by
    have : j = 0 := by simp at hj; omega
    subst this
    show (w.alloc (Obj.cells #[.int .u8 (x : Int)] 5)).cell? ⟨w.heap.size, 0, none⟩ = some (.int .u8 ((UInt8.ofNat x).toNat : Int))
    rw [e]
    simp [go_sem])
  exact this
/-- a number below a hundred, in digits -/
def decS (n : Nat) : ByteArray := if n < 10 then ⟨#[UInt8.ofNat (48 + n)]⟩ else ⟨#[UInt8.ofNat (48 + n / 10)]⟩ ++ ⟨#[UInt8.ofNat (48 + n % 10)]⟩
set_option maxRecDepth 100000 in
theorem decimal_one (n : Nat) (h : n < 10) (w : World) : Calls Tryd.prog 18 #[.int .i64 n] w fun e w' => e = .returned (.string (decS n)) ∧ Below w.heap.size w w' := by
  have hcv' := conv1 w (48 + n) (48 + (n : Int)) (by omega) (by omega)
  have e10 : (n : Int) % 10 = n := by omega
  have HD : Hid (decS n = ⟨#[UInt8.ofNat (48 + n)]⟩) := by show _ = _; unfold decS; rw [if_pos h]
  go_enter Tryd.func18, Tryd.ntmps18
  go_wp2
  go_ret
  exact ⟨by rw [HD.out]; first | rfl | simp, (Below.refl _ _).alloc (Nat.le_refl _) _⟩
set_option maxRecDepth 100000 in
theorem decimal_any (n : Nat) (h : n < 100) (w : World) : Calls Tryd.prog 18 #[.int .i64 n] w fun e w' => e = .returned (.string (decS n)) ∧ Below w.heap.size w w' := by
  by_cases h10 : n < 10
  · exact decimal_one n h10 w
  · have hcv := conv1 w (48 + n % 10) (48 + (n : Int) % 10) (by omega) (by omega)
    have HD : Hid (decS n = decS (n / 10) ++ ⟨#[UInt8.ofNat (48 + n % 10)]⟩) := by show _ = _; unfold decS; rw [if_neg h10, if_pos (by omega)]
    have hdz : (decS (n / 10)).size = 1 := by unfold decS; rw [if_pos (by omega)]; rfl
    obtain ⟨q, hq⟩ : ∃ q, q = n / 10 := ⟨_, rfl⟩
    rw [← hq] at HD hdz
    have e : (n : Int) / 10 = (q : Int) := by omega
    have HQ : Hid (q < 10) := by show _ < _; omega
    clear hq
    go_enter Tryd.func18, Tryd.ntmps18
    go_wp2_with (go_at_call 18; first | (refine (decimal_one q HQ.out _).mono ?_; rintro e w1 ⟨rfl, hb1⟩))
    go_ret
    exact ⟨by rw [HD.out]; first | rfl | simp, ((Below.refl _ _).alloc (Nat.le_refl _) _).trans (hb1.mono (by simp))⟩
end Go.Proofs.YtpfpganlghjhjaaDoor
