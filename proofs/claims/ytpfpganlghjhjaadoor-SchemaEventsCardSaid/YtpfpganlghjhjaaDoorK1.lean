/- The walk of the law SchemaNames. -/
import Derived.Test.YtpfpganlghjhjaaDoorA9
import Derived.Test.YtpfpganlghjhjaaDoorN2
import Derived.Deep.CutBlock
namespace Go.Proofs.YtpfpganlghjhjaaDoor.lawNames
open Go Go.ChangeShapes Go.WideShapes Go.ChangeAt Go.RowKit
set_option maxHeartbeats 4000000
set_option linter.unusedVariables false
set_option linter.unusedSimpArgs false
/-- may that byte stand at that place of a name? -/
def good (k : Nat) (c : Int) : Bool := ltr c || c == 95 || (dgt c && k != 0)
def goodTo (l : List UInt8) : Nat → Bool
  | 0 => true
  | k + 1 => goodTo l k && good k (l.getD k 0).toNat
def words16 : List (List UInt8) := words13 ++ [[73, 78, 84], [83, 84, 82], [66, 79, 79, 76]]
theorem kind_word (l : List UInt8) : (kindN l != 0) = ([[73, 78, 84], [83, 84, 82], [66, 79, 79, 76]] : List (List UInt8)).contains l := by
  unfold kindN
  by_cases h1 : l = [73, 78, 84]
  · subst h1; rfl
  · by_cases h2 : l = [83, 84, 82]
    · subst h2; rfl
    · by_cases h3 : l = [66, 79, 79, 76]
      · subst h3; rfl
      · rw [if_neg h1, if_neg h2, if_neg h3]
        simp [h1, h2, h3]
theorem lang_is (l : List UInt8) : ofLang l = words16.contains l := by
  unfold ofLang words16
  rw [kind_word]
  cases h1 : words13.contains l <;> cases h2 : ([[73, 78, 84], [83, 84, 82], [66, 79, 79, 76]] : List (List UInt8)).contains l <;> simp_all
theorem good_all {l : List UInt8} {k : Nat} (hk : k ≤ l.length) : goodTo l k = true → ∀ i, i < k → isW (l.getD i 0) = true ∧ (i = 0 → dgt (l.getD i 0).toNat = false) := by
  induction k with
  | zero => exact fun _ i hi => absurd hi (Nat.not_lt_zero _)
  | succ k ih =>
    intro h i hi
    simp only [goodTo, Bool.and_eq_true] at h
    by_cases hik : i = k
    · subst hik
      have hg := h.2
      generalize l.getD i 0 = c at hg ⊢
      simp only [good, Bool.or_eq_true, Bool.and_eq_true, bne_iff_ne, beq_iff_eq] at hg
      unfold isW wch
      rcases hg with (hg | hg) | ⟨hg, h0⟩
      · refine ⟨by simp [hg], fun _ => ?_⟩
        simp [ltr] at hg
        simp [dgt]
        omega
      · refine ⟨by simp [hg], fun _ => ?_⟩
        simp [dgt]
        omega
      · exact ⟨by simp [hg], fun e => absurd e h0⟩
    · exact ih (by omega) h.1 i (by omega)
theorem good_back {l : List UInt8} {k : Nat} (h : ∀ i, i < k → isW (l.getD i 0) = true ∧ (i = 0 → dgt (l.getD i 0).toNat = false)) : goodTo l k = true := by
  induction k with
  | zero => rfl
  | succ k ih =>
    simp only [goodTo, Bool.and_eq_true]
    refine ⟨ih fun i hi => h i (by omega), ?_⟩
    obtain ⟨h1, h2⟩ := h k (by omega)
    unfold isW wch at h1
    simp only [good, Bool.or_eq_true, Bool.and_eq_true, bne_iff_ne, beq_iff_eq] at h1 ⊢
    rcases h1 with (h1 | h1) | h1
    · refine .inr ⟨h1, fun e => ?_⟩
      rw [h2 e] at h1
      cases h1
    · exact .inl (.inl h1)
    · exact .inl (.inr h1)
theorem wl_iff (l : List UInt8) : wl l = l.length ↔ ∀ i, i < l.length → isW (l.getD i 0) = true := by
  constructor
  · intro h i hi
    cases hx : isW (l.getD i 0)
    · exfalso
      have step : ∀ n, n ≤ l.length → (∀ j, j < n → isW (l.getD j 0) = true) ∨ ∃ k, k < n ∧ isW (l.getD k 0) = false ∧ ∀ j, j < k → isW (l.getD j 0) = true := by
        intro n
        induction n with
        | zero => exact fun _ => .inl fun j hj => absurd hj (Nat.not_lt_zero _)
        | succ n ih =>
          intro hn
          rcases ih (by omega) with h1 | ⟨k, h1, h2, h3⟩
          · cases hy : isW (l.getD n 0)
            · exact .inr ⟨n, by omega, hy, h1⟩
            · refine .inl fun j hj => ?_
              by_cases hjn : j = n
              · rw [hjn]; exact hy
              · exact h1 j (by omega)
          · exact .inr ⟨k, by omega, h2, h3⟩
      have hall : ∃ k, k < l.length ∧ isW (l.getD k 0) = false ∧ ∀ j, j < k → isW (l.getD j 0) = true := by
        rcases step l.length (Nat.le_refl _) with h1 | h1
        · rw [h1 i hi] at hx
          cases hx
        · exact h1
      obtain ⟨k, h1, h2, h3⟩ := hall
      have hk : l[k]? = some (l.getD k 0) := by rw [List.getElem?_eq_getElem h1]; simp [List.getD_eq_getElem?_getD, List.getElem?_eq_getElem h1]
      have := wl_stop (l := l) (k := k) (b := l.getD k 0) (fun x hx' => by
        rw [List.mem_take_iff_getElem] at hx'
        obtain ⟨j, hj, rfl⟩ := hx'
        have := h3 j (by omega)
        simpa [List.getD_eq_getElem?_getD, List.getElem?_eq_getElem (show j < l.length by omega)] using this) hk h2
      omega
    · rfl
  · intro h
    refine wl_all fun x hx => ?_
    obtain ⟨i, hi, rfl⟩ := List.getElem_of_mem hx
    have := h i hi
    simpa [List.getD_eq_getElem?_getD, List.getElem?_eq_getElem hi] using this
/-- a name, as the law reckons it -/
theorem name_is (l : List UInt8) : nameL l = (decide (1 ≤ l.length) && decide (l.length ≤ 32) && goodTo l l.length && !words16.contains l) := by
  unfold nameL
  rw [lang_is]
  by_cases h0 : 1 ≤ l.length
  · have hh : l.headD 0 = l.getD 0 0 := by cases l <;> simp at h0 ⊢
    have key : (!dgt ((l.headD 0).toNat) && decide (wl l = l.length)) = goodTo l l.length := by
      rw [hh, Bool.eq_iff_iff]
      simp only [Bool.and_eq_true, Bool.not_eq_true', decide_eq_true_eq]
      constructor
      · rintro ⟨h1, h2⟩
        exact good_back fun i hi => ⟨(wl_iff l).1 h2 i hi, fun e => by subst e; exact h1⟩
      · intro h
        have := good_all (Nat.le_refl _) h
        exact ⟨(this 0 (by omega)).2 rfl, (wl_iff l).2 fun i hi => (this i hi).1⟩
    rw [← key]
    cases decide (1 ≤ l.length) <;> cases decide (l.length ≤ 32) <;> cases dgt ((l.headD 0).toNat) <;> cases decide (wl l = l.length) <;> simp
  · rw [decide_eq_false h0]
    simp
end Go.Proofs.YtpfpganlghjhjaaDoor.lawNames
