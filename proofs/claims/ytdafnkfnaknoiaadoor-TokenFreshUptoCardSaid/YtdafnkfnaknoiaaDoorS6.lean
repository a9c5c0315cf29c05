/- Contract of token.mayBe. -/
import Derived.Test.YtdafnkfnaknoiaaDoorS5
namespace Go.Proofs.YtdafnkfnaknoiaaDoor
open Go Go.RowKit
set_option maxHeartbeats 1000000
set_option linter.unusedVariables false
set_option linter.unusedSimpArgs false
attribute [local go_sem ↓] run_eql_T run_neq_T
theorem stepL_bad {l : List UInt8} {p q : Nat} {E : Int} (h : stepL l p = .bad E q) : E ≠ 0 := by
  rcases stt_cases l p with ⟨_, _, hs⟩ | ⟨_, _, _, _, hs⟩ | ⟨_, _, _, hs⟩ | ⟨t, _, _, hs⟩ | ⟨_, _, _, _, _, hs⟩ | ⟨_, _, _, hs⟩ | ⟨_, _, hs⟩ | ⟨_, _, _, hs⟩
  · rw [hs] at h; cases h
  · rw [hs] at h; cases h
  · rw [hs] at h; cases h
  · rw [hs] at h
    rcases hx : strL p (p + 1) [] t with ⟨E', q'⟩ | ⟨s, q'⟩
    · rw [hx] at h
      cases h
      exact strL_bad _ _ _ _ _ _ _ (Nat.le_refl _) hx
    · rw [hx] at h; cases h
  · rw [hs] at h
    split at h
    · cases h
    · cases h; decide
  · rw [hs] at h
    split at h
    · cases h; decide
    · cases h
  · rw [hs] at h; cases h; decide
  · rw [hs] at h; cases h
theorem scanT_bad : ∀ (k p : Nat) (R : List Tk) (l : List UInt8) (E : Int) (q : Nat), l.length ≤ k → scanT p R l = .bad E q → E ≠ 0
  | k, p, R, l, E, q, hk, h => by
    rw [scanT_eq] at h
    rcases hs : stepL l p with _ | n | ⟨tk, s, n⟩ | ⟨E', q'⟩
    · rw [hs] at h; cases h
    · rw [hs] at h
      have hn := stepL_skip hs
      match k, hk with
      | 0, hk => omega
      | k + 1, hk => exact scanT_bad k _ _ _ E q (by rw [List.length_drop]; omega) h
    · rw [hs] at h
      have hn := stepL_tok hs
      match k, hk with
      | 0, hk => omega
      | k + 1, hk => exact scanT_bad k _ _ _ E q (by rw [List.length_drop]; omega) h
    · rw [hs] at h
      cases h
      exact stepL_bad hs
theorem scanL_bad {l : List UInt8} {E : Int} {q : Nat} (h : scanL l = .bad E q) : E ≠ 0 := by
  unfold scanL at h
  split at h
  · cases h; decide
  · exact scanT_bad _ _ _ _ _ _ (Nat.le_refl _) h
theorem scanT_ne : ∀ (k p : Nat) (R : List Tk) (l : List UInt8), l.length ≤ k → scanT p R l ≠ .ok []
  | k, p, R, l, hk, h => by
    rw [scanT_eq] at h
    rcases hs : stepL l p with _ | n | ⟨tk, s, n⟩ | ⟨E', q'⟩
    · rw [hs] at h; simp at h
    · rw [hs] at h
      have hn := stepL_skip hs
      match k, hk with
      | 0, hk => omega
      | k + 1, hk => exact scanT_ne k _ _ _ (by rw [List.length_drop]; omega) h
    · rw [hs] at h
      have hn := stepL_tok hs
      match k, hk with
      | 0, hk => omega
      | k + 1, hk => exact scanT_ne k _ _ _ (by rw [List.length_drop]; omega) h
    · rw [hs] at h
      cases h
theorem scanL_ne (l : List UInt8) : scanL l ≠ .ok [] := by
  unfold scanL
  split
  · intro h; cases h
  · exact scanT_ne _ _ _ _ (Nat.le_refl _)
/-- can the token be? -/
def mayB (k : Int) (s : ByteArray) : Bool := match scanL (spellL k s.data.toList) with
  | .ok (t :: _) => teq t.1 ⟨t.2.1.toArray⟩ t.2.2 k s 0
  | _ => false
set_option maxRecDepth 100000 in
theorem may_any (k : Int) (s : ByteArray) (a : Int) (w : World) (he : Errs w) : Calls Tryd.prog 22 #[.agg #[.int .i64 k, .string s, .int .i64 a]] w fun e w' => e = .returned (.bool (mayB k s)) ∧ Below w.heap.size w w' := by
  have HSP : Hid (∀ wx, Below w.heap.size w wx → Calls Tryd.prog 23 #[.agg #[.int .i64 k, .string s, .int .i64 0]] wx fun e w' => e = .returned (.string ⟨(spellL k s.data.toList).toArray⟩) ∧ Below wx.heap.size wx w' ∧ Below w.heap.size w w') := fun wx hx => by
    refine (spelling_any k s 0 wx (he.below hx)).mono ?_
    rintro e w' ⟨rfl, hb⟩
    exact ⟨rfl, hb, hx.trans (hb.mono hx.size)⟩
  have hno := scanL_ne (spellL k s.data.toList)
  obtain ⟨l, hl⟩ : ∃ l, l = spellL k s.data.toList := ⟨_, rfl⟩
  rw [← hl] at HSP hno
  have hm : mayB k s = match scanL l with
    | .ok (t :: _) => teq t.1 ⟨t.2.1.toArray⟩ t.2.2 k s 0
    | _ => false := by rw [hl]; rfl
  obtain ⟨P, hP⟩ : ∃ P : ByteArray, P = ⟨l.toArray⟩ := ⟨_, rfl⟩
  have hPl : P.data.toList = l := by rw [hP]
  rw [← hP] at HSP
  have hB : Below w.heap.size w w := Below.refl _ _
  have hB1 : ∀ o, Below w.heap.size w (w.alloc o) := fun o => hB.alloc (Nat.le_refl _) _
  rcases hX : scanL l with ⟨E, q⟩ | L
  · rw [hX] at hm
    have HM : Hid (mayB k s = false) := hm
    have hE : E ≠ 0 := scanL_bad hX
    have HSC : Hid (∀ wx, Below w.heap.size w wx → Calls Tryd.prog 9 #[.string P] wx fun e w' => e = .returned (.tuple #[.slice none 0 0, .int .i64 q, .int .i64 E]) ∧ Below wx.heap.size wx w' ∧ Below w.heap.size w w') := fun wx hx => scan_bad_at P E q (by rw [hPl]; exact hX) w he wx hx
    have hEq : (E == 0) = false := by simpa using hE
    clear hm hP hPl hl hX he hno hE
    go_enter Tryd.func22, Tryd.ntmps22
    go_wp2_with (first | (go_at_call 23; refine (HSP.out _ (hB1 _)).mono ?_; rintro e w1 ⟨rfl, hb1, hB2⟩) | (go_at_call 9; refine (HSC.out _ hB2).mono ?_; rintro e w2 ⟨rfl, hb2, hB3⟩))
    go_quiet (fail)
    go_wp2
    go_ret
    exact ⟨by rw [HM.out]; rfl, below_drewN hB3 _⟩
  · rcases L with _ | ⟨⟨k', s', a'⟩, L⟩
    · exact absurd hX hno
    · rw [hX] at hm
      obtain ⟨S', hS'⟩ : ∃ S' : ByteArray, S' = ⟨s'.toArray⟩ := ⟨_, rfl⟩
      have HM : Hid (mayB k s = teq k' S' a' k s 0) := by show _ = _; rw [hm, hS']
      have HSC : Hid (∀ wx, Below w.heap.size w wx → Calls Tryd.prog 9 #[.string P] wx fun e w' => (∃ g cap, e = .returned (.tuple #[.slice (some ⟨g, 0, none⟩) (L.length + 1) cap, .int .i64 0, .int .i64 0]) ∧ Lie w' g ((k', s', a') :: L)) ∧ Below wx.heap.size wx w' ∧ Below w.heap.size w w') := fun wx hx => scan_ok_at P ((k', s', a') :: L) (by simp) (by rw [hPl]; exact hX) w he wx hx
      clear hm hP hPl hl hX he hno
      obtain ⟨n, hn⟩ : ∃ n, n = L.length + 1 := ⟨_, rfl⟩
      rw [← hn] at HSC
      have hn1 : 0 < n := by omega
      have hn2 : (0 : Int) < (n : Int) := by omega
      obtain ⟨b, hb⟩ : ∃ b, b = teq k' S' a' k s 0 := ⟨_, rfl⟩
      have HBB := Lib.hid hb
      clear hn hb
      go_enter Tryd.func22, Tryd.ntmps22
      go_wp2_with (first | (go_at_call 23; refine (HSP.out _ (hB1 _)).mono ?_; rintro e w1 ⟨rfl, hb1, hB2⟩) | (go_at_call 9; refine (HSC.out _ hB2).mono ?_; rintro e w2 ⟨⟨g, cap, rfl, hL⟩, hb2, hB3⟩))
      have hN : w.heap.size < w1.heap.size := by have := hb1.size; simp at this; omega
      have f0 : w2.cell? ⟨w.heap.size, 0, none⟩ = some (.int .i64 k) := (hb2.cell (p := ⟨w.heap.size, 0, none⟩) hN).trans ((hb1.cell (p := ⟨w.heap.size, 0, none⟩) (by simp)).trans (by simp [go_sem]))
      have f1 : w2.cell? ⟨w.heap.size, 1, none⟩ = some (.string s) := (hb2.cell (p := ⟨w.heap.size, 1, none⟩) hN).trans ((hb1.cell (p := ⟨w.heap.size, 1, none⟩) (by simp)).trans (by simp [go_sem]))
      have f2 : w2.cell? ⟨w.heap.size, 2, none⟩ = some (.int .i64 0) := (hb2.cell (p := ⟨w.heap.size, 2, none⟩) hN).trans ((hb1.cell (p := ⟨w.heap.size, 2, none⟩) (by simp)).trans (by simp [go_sem]))
      have g0 := hL 0 _ rfl
      have g1 := hL 1 _ rfl
      have g2 := hL 2 _ rfl
      simp only [← hS'] at g1
      have HB3 := Lib.hid hB3
      clear hL hb1 hb2 hB2 hB3 hS' hB hB1
      go_quiet (fail)
      go_wp2
      go_ret
      exact ⟨by rw [HM.out]; rfl, below_drewN HB3.out _⟩
end Go.Proofs.YtdafnkfnaknoiaaDoor
