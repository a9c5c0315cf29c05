/- Contracts of the laws' helper value, and facts of names a0, a1 .. -/
import Derived.Test.YtpfpganlghjhjaaDoorB2
import Derived.Test.YtpfpganlghjhjaaDoorB1
namespace Go.Proofs.YtpfpganlghjhjaaDoor
open Go Go.RowKit
set_option maxHeartbeats 1000000
set_option linter.unusedVariables false
set_option linter.unusedSimpArgs false
/-- one value of a kind: number, text or truth value -/
def vN (k n : Int) : Int := if k = 1 then n else 0
def vS (k : Int) (s : ByteArray) : ByteArray := if k = 2 then (if s.size ≤ 256 then s else s.extract 0 256) else ⟨#[]⟩
def vB (k n : Int) : Bool := if k = 1 ∨ k = 2 then false else (n.tmod 2 != 0)
def vK (k : Int) : Int := if k = 1 ∨ k = 2 then k else 3
theorem value_any (k n : Int) (s : ByteArray) (hs : s.size ≤ maxLen) (w : World) : Calls Tryd.prog 9 #[.int .i64 k, .int .i64 n, .string s] w fun e w' => e = .returned (.agg #[.int .i64 (vK k), .int .i64 (vN k n), .string (vS k s), .bool (vB k n)]) ∧ Below w.heap.size w w' := by
  unfold maxLen at hs
  have close : ∀ (K N : Int) (S : ByteArray) (B : Bool), vK k = K → vN k n = N → vS k s = S → vB k n = B → Calls Tryd.prog 9 #[.int .i64 k, .int .i64 n, .string s] w (fun e w' => e = .returned (.agg #[.int .i64 K, .int .i64 N, .string S, .bool B]) ∧ Below w.heap.size w w') →
      Calls Tryd.prog 9 #[.int .i64 k, .int .i64 n, .string s] w (fun e w' => e = .returned (.agg #[.int .i64 (vK k), .int .i64 (vN k n), .string (vS k s), .bool (vB k n)]) ∧ Below w.heap.size w w') := by
    intro K N S B h1 h2 h3 h4 h
    rw [h1, h2, h3, h4]
    exact h
  have bel : ∀ o : Obj, Below w.heap.size w (w.alloc o) := fun o => (Below.refl _ _).alloc (Nat.le_refl _) _
  have HBEL := Lib.hid bel
  clear bel
  by_cases h1 : k = 1
  · subst h1
    refine close 1 n ⟨#[]⟩ false (by decide) (by simp [vN]) (by simp [vS]) (by simp [vB]) ?_
    clear close
    by_cases h256 : s.size ≤ 256
    · have d : decide ((256 : Int) < (s.size : Int)) = false := by simp; omega
      go_enter Tryd.func9, Tryd.ntmps9
      go_wp2
      refine bodyPost_ret (v := .agg #[.int .i64 1, .int .i64 n, .string ⟨#[]⟩, .bool false]) (by simp [results, Tryd.results9, go_sem]) rfl ?_
      exact ⟨rfl, by repeat (first | exact HBEL.out _ | apply Below.drew | refine Below.setCell ?_ (by show w.heap.size ≤ w.heap.size; omega) _)⟩
    · have d : decide ((256 : Int) < (s.size : Int)) = true := by simp; omega
      have v0 : (256 : Int) ≤ (s.size : Int) := by omega
      go_enter Tryd.func9, Tryd.ntmps9
      go_wp2
      refine bodyPost_ret (v := .agg #[.int .i64 1, .int .i64 n, .string ⟨#[]⟩, .bool false]) (by simp [results, Tryd.results9, go_sem]) rfl ?_
      exact ⟨rfl, by repeat (first | exact HBEL.out _ | apply Below.drew | refine Below.setCell ?_ (by show w.heap.size ≤ w.heap.size; omega) _)⟩
  · by_cases h2 : k = 2
    · subst h2
      by_cases h256 : s.size ≤ 256
      · refine close 2 0 s false (by decide) (by simp [vN]) (by simp [vS, h256]) (by simp [vB]) ?_
        clear close
        have d : decide ((256 : Int) < (s.size : Int)) = false := by simp; omega
        go_enter Tryd.func9, Tryd.ntmps9
        go_wp2
        refine bodyPost_ret (v := .agg #[.int .i64 2, .int .i64 0, .string s, .bool false]) (by simp [results, Tryd.results9, go_sem]) rfl ?_
        exact ⟨rfl, by repeat (first | exact HBEL.out _ | apply Below.drew | refine Below.setCell ?_ (by show w.heap.size ≤ w.heap.size; omega) _)⟩
      · refine close 2 0 (s.extract 0 256) false (by decide) (by simp [vN]) (by simp [vS, h256]) (by simp [vB]) ?_
        clear close
        have d : decide ((256 : Int) < (s.size : Int)) = true := by simp; omega
        have v0 : (256 : Int) ≤ (s.size : Int) := by omega
        go_enter Tryd.func9, Tryd.ntmps9
        go_wp2
        refine bodyPost_ret (v := .agg #[.int .i64 2, .int .i64 0, .string (s.extract 0 256), .bool false]) (by simp [results, Tryd.results9, go_sem]) rfl ?_
        exact ⟨rfl, by repeat (first | exact HBEL.out _ | apply Below.drew | refine Below.setCell ?_ (by show w.heap.size ≤ w.heap.size; omega) _)⟩
    · have b1 : (k == 1) = false := by simp [h1]
      have b2 : (k == 2) = false := by simp [h2]
      refine close 3 0 ⟨#[]⟩ (n.tmod 2 != 0) (by simp [vK, h1, h2]) (by simp [vN, h1]) (by simp [vS, h2]) (by simp [vB, h1, h2]) ?_
      clear close h1 h2
      by_cases h256 : s.size ≤ 256
      · have d : decide ((256 : Int) < (s.size : Int)) = false := by simp; omega
        go_enter Tryd.func9, Tryd.ntmps9
        go_wp2
        refine bodyPost_ret (v := .agg #[.int .i64 3, .int .i64 0, .string ⟨#[]⟩, .bool (n.tmod 2 != 0)]) (by simp [results, Tryd.results9, go_sem]) rfl ?_
        exact ⟨rfl, by repeat (first | exact HBEL.out _ | apply Below.drew | refine Below.setCell ?_ (by show w.heap.size ≤ w.heap.size; omega) _)⟩
      · have d : decide ((256 : Int) < (s.size : Int)) = true := by simp; omega
        have v0 : (256 : Int) ≤ (s.size : Int) := by omega
        go_enter Tryd.func9, Tryd.ntmps9
        go_wp2
        refine bodyPost_ret (v := .agg #[.int .i64 3, .int .i64 0, .string ⟨#[]⟩, .bool (n.tmod 2 != 0)]) (by simp [results, Tryd.results9, go_sem]) rfl ?_
        exact ⟨rfl, by repeat (first | exact HBEL.out _ | apply Below.drew | refine Below.setCell ?_ (by show w.heap.size ≤ w.heap.size; omega) _)⟩
/-- it may be -/
theorem value_valid (k n : Int) (s : ByteArray) (hk : k = 1 ∨ k = 2 ∨ k = 3) : valid (vK k) (vN k n) (vS k s) (vB k n) = true ∧ vK k = k := by
  rcases hk with rfl | rfl | rfl
  · refine ⟨?_, by decide⟩
    simp [valid, vK, vN, vS, vB, veq]
  · refine ⟨?_, by decide⟩
    by_cases h : s.size ≤ 256
    · simp [valid, vK, vN, vS, vB, veq, h]
      omega
    · simp [valid, vK, vN, vS, vB, veq, h]
      omega
  · refine ⟨?_, by decide⟩
    simp [valid, vK, vN, vS, vB, veq]
end Go.Proofs.YtpfpganlghjhjaaDoor
