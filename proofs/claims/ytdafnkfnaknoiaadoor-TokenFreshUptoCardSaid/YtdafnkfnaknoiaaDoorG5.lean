/- Tokens of a kind that can be: what their text is cut into: plain facts. -/
import Derived.Test.YtdafnkfnaknoiaaDoorS8
import Derived.Test.YtdafnkfnaknoiaaDoorK3
namespace Go.Proofs.YtdafnkfnaknoiaaDoor
open Go Go.RowKit
set_option maxHeartbeats 1000000
set_option linter.unusedVariables false
set_option linter.unusedSimpArgs false
/-- nothing, or a blank ahead -/
def Gap (r : List UInt8) : Prop := r = [] ∨ ∃ c t, r = c :: t ∧ blankB c = true
theorem blank_cases {c : UInt8} (h : blankB c = true) : c = 32 ∨ c = 9 ∨ c = 10 ∨ c = 13 := by
  unfold blankB at h
  simp at h
  rcases h with ((h | h) | h) | h <;> simp [h]
theorem Gap.ends {r : List UInt8} (h : Gap r) : Ends r := by
  intro c t e
  rcases h with rfl | ⟨d, u, rfl, hb⟩
  · cases e
  · cases e
    rcases blank_cases hb with rfl | rfl | rfl | rfl <;> decide
theorem val_lt : ∀ (n : Nat) (l : List UInt8), l.length = n → (∀ x ∈ l, dgB x = true) → valD l < 10 ^ n
  | 0, l, h, _ => by rw [List.eq_nil_of_length_eq_zero h]; decide
  | n + 1, l, h, hd => by
    have hne : l ≠ [] := by intro e; rw [e] at h; cases h
    obtain ⟨q, x, rfl⟩ : ∃ q x, l = q ++ [x] := ⟨l.dropLast, l.getLast hne, (List.dropLast_concat_getLast hne).symm⟩
    have := val_lt n q (by simp at h; exact h) (fun y hy => hd y (by simp [hy]))
    have hx := dgB_iff.1 (hd x (by simp))
    rw [valD_snoc, Nat.pow_succ]
    omega
theorem dg_isW {c : UInt8} (h : dgB c = true) : isW c = true := by
  unfold isW wch
  unfold dgB at h
  rw [h]
  rfl
/-- a token that is cut as it is -/
structure Good (k : Int) (s : List UInt8) : Prop where
  cut : ∀ p R r, Gap r → scanT p R (spellL k s ++ r) = scanT (p + (spellL k s).length) (R ++ [(k, s, p)]) r
  len : (spellL k s).length ≤ 802
  pos : 0 < (spellL k s).length
  ne5 : k ≠ 5
theorem good_word {s : List UInt8} (h : WordOk s) (hne : s ≠ []) (hl : s.length ≤ 32) : Good 1 s := by
  have e : spellL 1 s = s := if_neg (by decide)
  rcases s with _ | ⟨c, t⟩
  · exact absurd rfl hne
  · exact ⟨fun p R r hr => by rw [e]; exact scan_word p R c t r h.1 (h.2 c t rfl) hr.ends hl, by rw [e]; omega, by rw [e]; simp, by decide⟩
theorem good_num {s : List UInt8} (h : Digits s) (hl : s.length ≤ 3) : Good 2 s := by
  have e : spellL 2 s = s := if_neg (by decide)
  have hn : numB s = true := by
    rw [numB_digits h]
    have h1 := val_lt _ s rfl h.1
    have h2 : (10 : Nat) ^ s.length ≤ 10 ^ 3 := Nat.pow_le_pow_right (by decide) hl
    simp
    omega
  rcases s with _ | ⟨c, t⟩
  · exact absurd rfl h.2.1
  · exact ⟨fun p R r hr => by rw [e]; exact scan_num p R c t r (fun x hx => dg_isW (h.1 x hx)) (h.1 c (by simp)) hr.ends hn, by rw [e]; omega, by rw [e]; simp, by decide⟩
set_option maxRecDepth 100000 in
theorem escB_forms : ∀ b : Fin 256, (escB (UInt8.ofNat b.val) = [UInt8.ofNat b.val] ∧ 32 ≤ b.val ∧ b.val ≤ 126 ∧ b.val ≠ 34 ∧ b.val ≠ 92) ∨ (escB (UInt8.ofNat b.val) = [92, UInt8.ofNat b.val] ∧ (b.val = 34 ∨ b.val = 92)) ∨ (escB (UInt8.ofNat b.val) = [92, 110] ∧ b.val = 10) ∨ (escB (UInt8.ofNat b.val) = [92, 116] ∧ b.val = 9) ∨ escB (UInt8.ofNat b.val) = [92, 120, dL (b.val / 16), dL (b.val % 16)] := by decide +kernel
theorem escB_writes (b : UInt8) : Writes (escB b) b := by
  have h := escB_forms ⟨b.toNat, b.toNat_lt⟩
  simp only [UInt8.ofNat_toNat] at h
  have hb := b.toNat_lt
  rcases h with ⟨e, h1, h2, h3, h4⟩ | ⟨e, h⟩ | ⟨e, h⟩ | ⟨e, h⟩ | e
  · rw [e]
    exact writes_self ⟨h1, h2⟩ (fun q => h3 (by rw [q]; rfl)) (fun q => h4 (by rw [q]; rfl))
  · rw [e]
    exact writes_back (h.elim (fun h => .inl (UInt8.toNat_inj.1 (by rw [h]; rfl))) (fun h => .inr (UInt8.toNat_inj.1 (by rw [h]; rfl))))
  · rw [e, show b = 10 from UInt8.toNat_inj.1 (by rw [h]; rfl)]
    exact writes_n
  · rw [e, show b = 9 from UInt8.toNat_inj.1 (by rw [h]; rfl)]
    exact writes_t
  · rw [e]
    exact writes_x (hexV_dL (by omega)) (hexV_dL (by omega)) (byte_hex b)
theorem good_str {s : List UInt8} (hl : s.length ≤ 200) : Good 3 s := by
  have e : spellL 3 s = 34 :: (escLB s ++ [34]) := by
    unfold spellL
    rw [if_pos rfl, if_pos (by omega), quoteL_eq]
  have ef : (s.map fun b => (escB b, b)).flatMap (·.1) = escLB s := by
    unfold escLB
    rw [List.flatMap_map]
  have em : (s.map fun b => (escB b, b)).map (·.2) = s := by simp [Function.comp_def]
  have hlen : (escLB s).length ≤ 4 * s.length := by
    have := escL_len s
    rw [← bytesOf_escL]
    unfold bytesOf
    rw [List.length_map]
    exact this
  refine ⟨fun p R r hr => ?_, by rw [e]; simp; omega, by rw [e]; simp, by decide⟩
  have := scan_str p R (s.map fun b => (escB b, b)) r (fun x hx => by
    obtain ⟨b, _, rfl⟩ := List.mem_map.1 hx
    exact escB_writes b) (by rw [List.length_map]; omega)
  rw [ef, em] at this
  rw [e]
  rw [show (34 :: (escLB s ++ [34])) ++ r = 34 :: (escLB s ++ 34 :: r) by simp, this]
  congr 1
  simp
theorem good_sign {j : Nat} (hj : j < 19) {s : List UInt8} (h : sgC[j]? = some (.string ⟨s.toArray⟩)) : Good 4 s := by
  have e : spellL 4 s = s := if_neg (by decide)
  have key : (∀ p r, Gap r → stepL (s ++ r) p = .tok 4 s s.length) ∧ 0 < s.length ∧ s.length ≤ 2 := by
    have hq : j = 0 ∨ j = 1 ∨ j = 2 ∨ j = 3 ∨ j = 4 ∨ j = 5 ∨ j = 6 ∨ j = 7 ∨ j = 8 ∨ j = 9 ∨ j = 10 ∨ j = 11 ∨ j = 12 ∨ j = 13 ∨ j = 14 ∨ j = 15 ∨ j = 16 ∨ j = 17 ∨ j = 18 := by omega
    rcases hq with rfl | rfl | rfl | rfl | rfl | rfl | rfl | rfl | rfl | rfl | rfl | rfl | rfl | rfl | rfl | rfl | rfl | rfl | rfl
    all_goals
      have h2 := Option.some.inj h
      injection h2 with h2
      injection h2 with h2
      have h3 : s = _ := (congrArg Array.toList h2).symm
      subst h3
      refine ⟨fun p r hr => ?_, by decide, by decide⟩
      rcases hr with rfl | ⟨c, t, rfl, hc⟩
      · rfl
      · rcases blank_cases hc with rfl | rfl | rfl | rfl <;> rfl
  refine ⟨fun p R r hr => ?_, by rw [e]; omega, by rw [e]; exact key.2.1, by decide⟩
  rw [e, scanT_eq, key.1 p r hr]
  simp only
  rw [List.drop_left]
theorem plain_good {k : Int} {s : List UInt8} (h : PlainTok k s) : Good k s := by
  rcases h with ⟨rfl, h1, h2, h3⟩ | ⟨rfl, h1, h2⟩ | ⟨rfl, h1⟩ | ⟨rfl, j, h1, h2⟩
  · exact good_word h1 h2 h3
  · exact good_num h1 h2
  · exact good_str h1
  · exact good_sign h1 h2
/-- such a token can be -/
theorem Good.may {k : Int} {s : ByteArray} (h : Good k s.data.toList) : mayB k s = true := by
  have h1 := h.cut 0 [] [] (.inl rfl)
  rw [List.append_nil, scan_nil] at h1
  have h2 : scanL (spellL k s.data.toList) = .ok [(k, s.data.toList, 0), (5, [], 0 + (spellL k s.data.toList).length)] := by
    rw [scanL_small (by have := h.len; omega), h1]
    rfl
  unfold mayB
  rw [h2]
  simp only
  rw [show (⟨s.data.toList.toArray⟩ : ByteArray) = s from bytes_ext' (by simp)]
  exact teq_self _ _ _
end Go.Proofs.YtdafnkfnaknoiaaDoor
