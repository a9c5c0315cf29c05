/- TokenLimits: what its texts are cut into: plain facts. -/
import Derived.Test.YtdafnkfnaknoiaaDoorL1
namespace Go.Proofs.YtdafnkfnaknoiaaDoor
open Go Go.RowKit
set_option maxHeartbeats 1000000
set_option linter.unusedVariables false
set_option linter.unusedSimpArgs false
def chM (m j : Nat) : UInt8 := UInt8.ofNat (97 + (m + j) % 26)
def wordM (m : Nat) : Nat → List UInt8
  | 0 => []
  | k + 1 => wordM m k ++ [chM m k]
theorem wordM_len (m : Nat) : ∀ k, (wordM m k).length = k
  | 0 => rfl
  | k + 1 => by rw [wordM, List.length_append, wordM_len m k]; rfl
theorem chM_nat (m j : Nat) : (chM m j).toNat = 97 + (m + j) % 26 := by
  unfold chM
  rw [UInt8.toNat_ofNat']
  omega
theorem isW_low {c : UInt8} (h : 97 ≤ c.toNat ∧ c.toNat ≤ 122) : isW c = true := by
  unfold isW wch ltr
  have h1 : decide ((97 : Int) ≤ (c.toNat : Int)) = true := by simp; omega
  have h2 : decide ((c.toNat : Int) ≤ 122) = true := by simp; omega
  rw [h1, h2]
  simp
theorem wordM_isW (m : Nat) : ∀ k, ∀ x ∈ wordM m k, isW x = true
  | 0, x, h => by cases h
  | k + 1, x, h => by
    rw [wordM, List.mem_append] at h
    rcases h with h | h
    · exact wordM_isW m k x h
    · simp at h
      subst h
      exact isW_low (by rw [chM_nat]; omega)
theorem wordM_cons (m : Nat) : ∀ k, ∃ t, wordM m (k + 1) = chM m 0 :: t
  | 0 => ⟨[], rfl⟩
  | k + 1 => by
    obtain ⟨t, ht⟩ := wordM_cons m k
    exact ⟨t ++ [chM m (k + 1)], by rw [wordM, ht]; rfl⟩
theorem chM_dg (m : Nat) : dgB (chM m 0) = false := by
  cases h : dgB (chM m 0)
  · rfl
  · have := dgB_iff.1 h
    rw [chM_nat] at this
    omega
theorem lim1 (m : Nat) (hm : m < 40) : scanL (List.replicate m 32 ++ wordM m 32) = .ok [(1, wordM m 32, m), (5, [], m + 32)] := by
  rw [scanL_small (by simp [wordM_len]; omega), scan_blanks]
  obtain ⟨t, ht⟩ := wordM_cons m 31
  have hl : (chM m 0 :: t).length = 32 := by rw [← ht, wordM_len]
  have := scan_word (0 + m) [] (chM m 0) t [] (by rw [← ht]; exact wordM_isW m 32) (chM_dg m) (fun c t h => by cases h) (by omega)
  rw [List.append_nil, ← ht, wordM_len, scan_nil] at this
  rw [this]
  simp
theorem lim2 (m : Nat) (hm : m < 40) : scanL (List.replicate m 32 ++ wordM m 32 ++ [57]) = .bad 51 m := by
  rw [scanL_small (by simp [wordM_len]; omega), List.append_assoc, scan_blanks]
  obtain ⟨t, ht⟩ := wordM_cons m 31
  have hl : (chM m 0 :: t).length = 32 := by rw [← ht, wordM_len]
  have := scan_long (0 + m) [] (chM m 0) (t ++ [57]) [] (by rw [← List.cons_append, ← ht]; intro x hx; rcases List.mem_append.1 hx with h | h; exact wordM_isW m 32 x h; simp at h; subst h; decide) (chM_dg m) (fun c t h => by cases h) (by rw [← List.cons_append, List.length_append, hl]; simp)
  rw [List.append_nil, ← List.cons_append, ← ht] at this
  rw [this]
  simp
theorem lim3 : scanL [57, 50, 50, 51, 51, 55, 50, 48, 51, 54, 56, 53, 52, 55, 55, 53, 56, 48, 55] = .ok [(2, [57, 50, 50, 51, 51, 55, 50, 48, 51, 54, 56, 53, 52, 55, 55, 53, 56, 48, 55], 0), (5, [], 19)] := by
  rw [scanL_small (by decide)]
  have := scan_num 0 [] 57 [50, 50, 51, 51, 55, 50, 48, 51, 54, 56, 53, 52, 55, 55, 53, 56, 48, 55] [] (by decide) (by decide) (fun c t h => by cases h) (by
    rw [numB_digits ⟨by decide, by decide, by decide⟩]
    decide)
  rw [List.append_nil, scan_nil] at this
  exact this
theorem lim4 : scanL [57, 50, 50, 51, 51, 55, 50, 48, 51, 54, 56, 53, 52, 55, 55, 53, 56, 48, 56] = .bad 51 0 := by
  rw [scanL_small (by decide)]
  have := scan_badnum 0 [] 57 [50, 50, 51, 51, 55, 50, 48, 51, 54, 56, 53, 52, 55, 55, 53, 56, 48, 56] [] (by decide) (by decide) (fun c t h => by cases h) (by
    rw [numB_digits ⟨by decide, by decide, by decide⟩]
    decide)
  rw [List.append_nil] at this
  exact this
theorem lim5 : scanL (List.replicate 4096 32) = .ok [(5, [], 4096)] := by
  rw [scanL_small (by rw [List.length_replicate]; omega)]
  have := scan_blanks 4096 0 [] []
  rw [List.append_nil, scan_nil] at this
  rw [this]
  rfl
theorem lim6 : scanL (List.replicate 4096 32 ++ [32]) = .bad 2 0 := by
  unfold scanL
  rw [if_pos (by rw [List.length_append, List.length_replicate]; simp)]
theorem lim5k (k : Nat) (hk : k = 4096) : scanL (List.replicate k 32) = .ok [(5, [], k)] := by
  rw [scanL_small (by rw [List.length_replicate]; omega)]
  have := scan_blanks k 0 [] []
  rw [List.append_nil, scan_nil] at this
  rw [this]
  simp
theorem lim6k (k : Nat) (hk : k = 4096) : scanL (List.replicate k 32 ++ [32]) = .bad 2 0 := by
  unfold scanL
  rw [if_pos (by rw [List.length_append, List.length_replicate]; simp; omega)]
theorem writes_blank : Writes [32] 32 := writes_self (by decide) (by decide) (by decide)
theorem flat_blank (k : Nat) : (List.replicate k (([32], 32) : List UInt8 × UInt8)).flatMap (·.1) = List.replicate k 32 := by
  induction k with
  | zero => rfl
  | succ k ih => rw [List.replicate_succ, List.flatMap_cons, ih]; rfl
theorem all_blank (k : Nat) : ∀ x ∈ List.replicate k (([32], 32) : List UInt8 × UInt8), Writes x.1 x.2 := by
  intro x hx
  rw [List.eq_of_mem_replicate hx]
  exact writes_blank
theorem lim7 (m : Nat) (hm : m < 40) : ∃ L, scanL (List.replicate m 32 ++ [34] ++ List.replicate 256 32 ++ [34]) = .ok L := by
  rw [scanL_small (by simp only [List.length_append, List.length_replicate, List.length_singleton]; omega), List.append_assoc, List.append_assoc, scan_blanks]
  have := scan_str (0 + m) [] (List.replicate 256 ([32], 32)) [] (all_blank 256) (by rw [List.length_replicate]; omega)
  rw [flat_blank, scan_nil] at this
  exact ⟨_, this⟩
theorem lim8 (m : Nat) (hm : m < 40) : scanL (List.replicate m 32 ++ [34] ++ List.replicate 256 32 ++ [32, 34]) = .bad 51 m := by
  rw [scanL_small (by simp only [List.length_append, List.length_replicate, List.length_singleton, List.length_cons, List.length_nil]; omega), List.append_assoc, List.append_assoc, scan_blanks]
  have := scan_full (0 + m) [] (List.replicate 256 ([32], 32)) [32] [34] 32 (all_blank 256) (by rw [List.length_replicate]) writes_blank
  rw [flat_blank] at this
  rw [show ([34] : List UInt8) ++ (List.replicate 256 32 ++ [32, 34]) = 34 :: (List.replicate 256 32 ++ ([32] ++ [34])) from rfl, this, Nat.zero_add]
end Go.Proofs.YtdafnkfnaknoiaaDoor
