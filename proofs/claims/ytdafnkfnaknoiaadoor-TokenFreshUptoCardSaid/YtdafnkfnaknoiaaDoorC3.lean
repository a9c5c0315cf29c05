/- Contracts of package token: the length of a sign; a clone. -/
import Derived.Test.YtdafnkfnaknoiaaDoorC2
import Derived.Test.YtdafnkfnaknoiaaDoorVSs
import Derived.WalkKit
import Derived.OwnWalk
import Derived.LoopN
import Derived.WalkSpells
import Derived.WalkLawsBesides
import Derived.Lib.Hide
namespace Go.Proofs.YtdafnkfnaknoiaaDoor
open Go Go.RowKit
set_option maxHeartbeats 1000000
set_option linter.unusedVariables false
set_option linter.unusedSimpArgs false
theorem clone_any (s : ByteArray) (w : World) (hlim : s.size ≤ 281474976710656) : Calls Tryd.prog 51 #[.string s] w fun e w' => e = .returned (.string s) ∧ Below w.heap.size w w' := by
  go_enter Tryd.func51, Tryd.ntmps51
  go_wp2_with (go_at_call 67; refine (Tryd.stringslite_Clone s _ hlim).mono ?_; rintro e w' ⟨rfl, hb⟩)
  go_ret
  exact ⟨rfl, hb⟩
/-- one byte ahead? -/
theorem prefix_one (s : ByteArray) (c : UInt8) (t : List UInt8) (p : UInt8) (h : s.data.toList = c :: t) : Lib.hasPrefix (s.extract 1 s.size).data.toList [p] = decide (t.head? = some p) := by
  have e : (s.extract 1 s.size).data.toList = t := by
    rw [ByteArray.data_extract]
    simp only [Array.toList_extract, List.extract_eq_take_drop]
    have := size_of h
    simp at this
    rw [h, this]
    simp
  rw [e]
  cases t with
  | nil => simp [Lib.hasPrefix]
  | cons a t =>
    simp [Lib.hasPrefix, List.isPrefixOf]
    by_cases hq : p = a
    · subst hq; simp
    · simp [hq, Ne.symm hq]
theorem signL_cons (c : UInt8) (t : List UInt8) : signL (c :: t) = if c = 46 then (if t.head? = some 46 then 2 else 1) else if c = 33 ∨ c = 60 ∨ c = 62 then (if t.head? = some 61 then 2 else 1)
    else if c = 40 ∨ c = 41 ∨ c = 91 ∨ c = 93 ∨ c = 123 ∨ c = 125 ∨ c = 44 ∨ c = 43 ∨ c = 45 ∨ c = 42 ∨ c = 61 then 1 else 0 := rfl
theorem signLen_any (s : ByteArray) (b : UInt8) (r : List UInt8) (h : s.data.toList = b :: r) (w : World) : Calls Tryd.prog 35 #[.string s] w fun e w' => e = .returned (.int .i64 (signL (b :: r))) ∧ w' = w := by
  have hs := size_of h
  have g0 : 0 < s.size := by rw [hs]; simp
  have g1 : 1 ≤ s.size := g0
  have e0 : s[0]'g0 = b := at_of h rfl g0
  have HP : Hid (∀ (p : UInt8) w, Calls Tryd.prog 46 #[.string (s.extract 1 s.size), .string ⟨#[p]⟩] w fun e w' => e = .returned (.bool (decide (r.head? = some p))) ∧ w' = w) := by
    intro p w
    have := Tryd.strings_HasPrefix (s.extract 1 s.size) ⟨#[p]⟩ w
    rw [show (⟨#[p]⟩ : ByteArray).data.toList = [p] from rfl, prefix_one s b r p h] at this
    exact this
  have hb : b.toNat < 256 := b.toNat_lt
  have hc : ∀ k : Nat, k < 256 → (b = UInt8.ofNat k ↔ b.toNat = k) := fun k hk => ⟨fun h => by rw [h, UInt8.toNat_ofNat']; omega, fun h => UInt8.toNat_inj.1 (by rw [h, UInt8.toNat_ofNat']; omega)⟩
  obtain ⟨n, hn⟩ : ∃ n : Nat, n = b.toNat := ⟨_, rfl⟩
  have E0 : ((s[0]'g0).toNat : Int) = n := by rw [e0, hn]
  have hl : n = 46 ∨ n = 33 ∨ n = 60 ∨ n = 62 ∨ n = 40 ∨ n = 41 ∨ n = 91 ∨ n = 93 ∨ n = 123 ∨ n = 125 ∨ n = 44 ∨ n = 43 ∨ n = 45 ∨ n = 42 ∨ n = 61 ∨ (n ≠ 46 ∧ n ≠ 33 ∧ n ≠ 60 ∧ n ≠ 62 ∧ n ≠ 40 ∧ n ≠ 41 ∧ n ≠ 91 ∧ n ≠ 93 ∧ n ≠ 123 ∧ n ≠ 125 ∧ n ≠ 44 ∧ n ≠ 43 ∧ n ≠ 45 ∧ n ≠ 42 ∧ n ≠ 61) := by omega
  have key : ∀ k : Nat, k < 256 → n = k → b = UInt8.ofNat k := fun k hk h => (hc k hk).2 (by rw [← hn, h])
  have hne : ∀ k : Nat, k < 256 → n ≠ k → b ≠ UInt8.ofNat k := fun k hk h hb => h (by rw [hn]; exact (hc k hk).1 hb)
  obtain ⟨R, hR⟩ : ∃ R, R = signL (b :: r) := ⟨_, rfl⟩
  rw [← hR]
  rcases hl with q | hl
  · have hbq : b = 46 := key 46 (by omega) q
    have E1 : ((s[0]'g0).toNat : Int) = 46 := by rw [E0, q]; rfl
    by_cases hd : r.head? = some 46
    · have HR : Hid (R = 2) := by show _ = _; rw [hR, hbq, signL_cons]; simp [hd]
      have HD : Hid (decide (r.head? = some 46) = true) := by show _ = _; simp [hd]
      clear hd h hs e0 hn key hne hc E0 q hR hbq
      go_enter Tryd.func35, Tryd.ntmps35
      go_wp2_with (go_at_call 46; refine (HP.out _ _).mono ?_; rw [HD.out]; rintro e w' ⟨rfl, hw⟩; obtain rfl := hw.symm)
      go_ret
      exact ⟨by rw [HR.out]; rfl, by first | rfl | trivial⟩
    · have HR : Hid (R = 1) := by show _ = _; rw [hR, hbq, signL_cons]; simp [hd]
      have HD : Hid (decide (r.head? = some 46) = false) := by show _ = _; simp [hd]
      clear hd h hs e0 hn key hne hc E0 q hR hbq
      go_enter Tryd.func35, Tryd.ntmps35
      go_wp2_with (go_at_call 46; refine (HP.out _ _).mono ?_; rw [HD.out]; rintro e w' ⟨rfl, hw⟩; obtain rfl := hw.symm)
      go_ret
      exact ⟨by rw [HR.out]; rfl, by first | rfl | trivial⟩
  rcases hl with q | hl
  · have hbq : b = 33 := key 33 (by omega) q
    have E1 : ((s[0]'g0).toNat : Int) = 33 := by rw [E0, q]; rfl
    by_cases hd : r.head? = some 61
    · have HR : Hid (R = 2) := by show _ = _; rw [hR, hbq, signL_cons]; simp [hd]
      have HD : Hid (decide (r.head? = some 61) = true) := by show _ = _; simp [hd]
      clear hd h hs e0 hn key hne hc E0 q hR hbq
      go_enter Tryd.func35, Tryd.ntmps35
      go_wp2_with (go_at_call 46; refine (HP.out _ _).mono ?_; rw [HD.out]; rintro e w' ⟨rfl, hw⟩; obtain rfl := hw.symm)
      go_ret
      exact ⟨by rw [HR.out]; rfl, by first | rfl | trivial⟩
    · have HR : Hid (R = 1) := by show _ = _; rw [hR, hbq, signL_cons]; simp [hd]
      have HD : Hid (decide (r.head? = some 61) = false) := by show _ = _; simp [hd]
      clear hd h hs e0 hn key hne hc E0 q hR hbq
      go_enter Tryd.func35, Tryd.ntmps35
      go_wp2_with (go_at_call 46; refine (HP.out _ _).mono ?_; rw [HD.out]; rintro e w' ⟨rfl, hw⟩; obtain rfl := hw.symm)
      go_ret
      exact ⟨by rw [HR.out]; rfl, by first | rfl | trivial⟩
  rcases hl with q | hl
  · have hbq : b = 60 := key 60 (by omega) q
    have E1 : ((s[0]'g0).toNat : Int) = 60 := by rw [E0, q]; rfl
    by_cases hd : r.head? = some 61
    · have HR : Hid (R = 2) := by show _ = _; rw [hR, hbq, signL_cons]; simp [hd]
      have HD : Hid (decide (r.head? = some 61) = true) := by show _ = _; simp [hd]
      clear hd h hs e0 hn key hne hc E0 q hR hbq
      go_enter Tryd.func35, Tryd.ntmps35
      go_wp2_with (go_at_call 46; refine (HP.out _ _).mono ?_; rw [HD.out]; rintro e w' ⟨rfl, hw⟩; obtain rfl := hw.symm)
      go_ret
      exact ⟨by rw [HR.out]; rfl, by first | rfl | trivial⟩
    · have HR : Hid (R = 1) := by show _ = _; rw [hR, hbq, signL_cons]; simp [hd]
      have HD : Hid (decide (r.head? = some 61) = false) := by show _ = _; simp [hd]
      clear hd h hs e0 hn key hne hc E0 q hR hbq
      go_enter Tryd.func35, Tryd.ntmps35
      go_wp2_with (go_at_call 46; refine (HP.out _ _).mono ?_; rw [HD.out]; rintro e w' ⟨rfl, hw⟩; obtain rfl := hw.symm)
      go_ret
      exact ⟨by rw [HR.out]; rfl, by first | rfl | trivial⟩
  rcases hl with q | hl
  · have hbq : b = 62 := key 62 (by omega) q
    have E1 : ((s[0]'g0).toNat : Int) = 62 := by rw [E0, q]; rfl
    by_cases hd : r.head? = some 61
    · have HR : Hid (R = 2) := by show _ = _; rw [hR, hbq, signL_cons]; simp [hd]
      have HD : Hid (decide (r.head? = some 61) = true) := by show _ = _; simp [hd]
      clear hd h hs e0 hn key hne hc E0 q hR hbq
      go_enter Tryd.func35, Tryd.ntmps35
      go_wp2_with (go_at_call 46; refine (HP.out _ _).mono ?_; rw [HD.out]; rintro e w' ⟨rfl, hw⟩; obtain rfl := hw.symm)
      go_ret
      exact ⟨by rw [HR.out]; rfl, by first | rfl | trivial⟩
    · have HR : Hid (R = 1) := by show _ = _; rw [hR, hbq, signL_cons]; simp [hd]
      have HD : Hid (decide (r.head? = some 61) = false) := by show _ = _; simp [hd]
      clear hd h hs e0 hn key hne hc E0 q hR hbq
      go_enter Tryd.func35, Tryd.ntmps35
      go_wp2_with (go_at_call 46; refine (HP.out _ _).mono ?_; rw [HD.out]; rintro e w' ⟨rfl, hw⟩; obtain rfl := hw.symm)
      go_ret
      exact ⟨by rw [HR.out]; rfl, by first | rfl | trivial⟩
  rcases hl with q | hl
  · have hbq : b = 40 := key 40 (by omega) q
    have E1 : ((s[0]'g0).toNat : Int) = 40 := by rw [E0, q]; rfl
    have HR : Hid (R = 1) := by show _ = _; rw [hR, hbq, signL_cons]; simp
    clear h hs e0 hn key hne hc E0 q hR hbq
    go_enter Tryd.func35, Tryd.ntmps35
    go_wp2
    go_ret
    exact ⟨by rw [HR.out]; rfl, by first | rfl | trivial⟩
  rcases hl with q | hl
  · have hbq : b = 41 := key 41 (by omega) q
    have E1 : ((s[0]'g0).toNat : Int) = 41 := by rw [E0, q]; rfl
    have HR : Hid (R = 1) := by show _ = _; rw [hR, hbq, signL_cons]; simp
    clear h hs e0 hn key hne hc E0 q hR hbq
    go_enter Tryd.func35, Tryd.ntmps35
    go_wp2
    go_ret
    exact ⟨by rw [HR.out]; rfl, by first | rfl | trivial⟩
  rcases hl with q | hl
  · have hbq : b = 91 := key 91 (by omega) q
    have E1 : ((s[0]'g0).toNat : Int) = 91 := by rw [E0, q]; rfl
    have HR : Hid (R = 1) := by show _ = _; rw [hR, hbq, signL_cons]; simp
    clear h hs e0 hn key hne hc E0 q hR hbq
    go_enter Tryd.func35, Tryd.ntmps35
    go_wp2
    go_ret
    exact ⟨by rw [HR.out]; rfl, by first | rfl | trivial⟩
  rcases hl with q | hl
  · have hbq : b = 93 := key 93 (by omega) q
    have E1 : ((s[0]'g0).toNat : Int) = 93 := by rw [E0, q]; rfl
    have HR : Hid (R = 1) := by show _ = _; rw [hR, hbq, signL_cons]; simp
    clear h hs e0 hn key hne hc E0 q hR hbq
    go_enter Tryd.func35, Tryd.ntmps35
    go_wp2
    go_ret
    exact ⟨by rw [HR.out]; rfl, by first | rfl | trivial⟩
  rcases hl with q | hl
  · have hbq : b = 123 := key 123 (by omega) q
    have E1 : ((s[0]'g0).toNat : Int) = 123 := by rw [E0, q]; rfl
    have HR : Hid (R = 1) := by show _ = _; rw [hR, hbq, signL_cons]; simp
    clear h hs e0 hn key hne hc E0 q hR hbq
    go_enter Tryd.func35, Tryd.ntmps35
    go_wp2
    go_ret
    exact ⟨by rw [HR.out]; rfl, by first | rfl | trivial⟩
  rcases hl with q | hl
  · have hbq : b = 125 := key 125 (by omega) q
    have E1 : ((s[0]'g0).toNat : Int) = 125 := by rw [E0, q]; rfl
    have HR : Hid (R = 1) := by show _ = _; rw [hR, hbq, signL_cons]; simp
    clear h hs e0 hn key hne hc E0 q hR hbq
    go_enter Tryd.func35, Tryd.ntmps35
    go_wp2
    go_ret
    exact ⟨by rw [HR.out]; rfl, by first | rfl | trivial⟩
  rcases hl with q | hl
  · have hbq : b = 44 := key 44 (by omega) q
    have E1 : ((s[0]'g0).toNat : Int) = 44 := by rw [E0, q]; rfl
    have HR : Hid (R = 1) := by show _ = _; rw [hR, hbq, signL_cons]; simp
    clear h hs e0 hn key hne hc E0 q hR hbq
    go_enter Tryd.func35, Tryd.ntmps35
    go_wp2
    go_ret
    exact ⟨by rw [HR.out]; rfl, by first | rfl | trivial⟩
  rcases hl with q | hl
  · have hbq : b = 43 := key 43 (by omega) q
    have E1 : ((s[0]'g0).toNat : Int) = 43 := by rw [E0, q]; rfl
    have HR : Hid (R = 1) := by show _ = _; rw [hR, hbq, signL_cons]; simp
    clear h hs e0 hn key hne hc E0 q hR hbq
    go_enter Tryd.func35, Tryd.ntmps35
    go_wp2
    go_ret
    exact ⟨by rw [HR.out]; rfl, by first | rfl | trivial⟩
  rcases hl with q | hl
  · have hbq : b = 45 := key 45 (by omega) q
    have E1 : ((s[0]'g0).toNat : Int) = 45 := by rw [E0, q]; rfl
    have HR : Hid (R = 1) := by show _ = _; rw [hR, hbq, signL_cons]; simp
    clear h hs e0 hn key hne hc E0 q hR hbq
    go_enter Tryd.func35, Tryd.ntmps35
    go_wp2
    go_ret
    exact ⟨by rw [HR.out]; rfl, by first | rfl | trivial⟩
  rcases hl with q | hl
  · have hbq : b = 42 := key 42 (by omega) q
    have E1 : ((s[0]'g0).toNat : Int) = 42 := by rw [E0, q]; rfl
    have HR : Hid (R = 1) := by show _ = _; rw [hR, hbq, signL_cons]; simp
    clear h hs e0 hn key hne hc E0 q hR hbq
    go_enter Tryd.func35, Tryd.ntmps35
    go_wp2
    go_ret
    exact ⟨by rw [HR.out]; rfl, by first | rfl | trivial⟩
  rcases hl with q | hl
  · have hbq : b = 61 := key 61 (by omega) q
    have E1 : ((s[0]'g0).toNat : Int) = 61 := by rw [E0, q]; rfl
    have HR : Hid (R = 1) := by show _ = _; rw [hR, hbq, signL_cons]; simp
    clear h hs e0 hn key hne hc E0 q hR hbq
    go_enter Tryd.func35, Tryd.ntmps35
    go_wp2
    go_ret
    exact ⟨by rw [HR.out]; rfl, by first | rfl | trivial⟩
  have b46 : ((n : Int) == 46) = false := by simp; omega
  have b33 : ((n : Int) == 33) = false := by simp; omega
  have b60 : ((n : Int) == 60) = false := by simp; omega
  have b62 : ((n : Int) == 62) = false := by simp; omega
  have b40 : ((n : Int) == 40) = false := by simp; omega
  have b41 : ((n : Int) == 41) = false := by simp; omega
  have b91 : ((n : Int) == 91) = false := by simp; omega
  have b93 : ((n : Int) == 93) = false := by simp; omega
  have b123 : ((n : Int) == 123) = false := by simp; omega
  have b125 : ((n : Int) == 125) = false := by simp; omega
  have b44 : ((n : Int) == 44) = false := by simp; omega
  have b43 : ((n : Int) == 43) = false := by simp; omega
  have b45 : ((n : Int) == 45) = false := by simp; omega
  have b42 : ((n : Int) == 42) = false := by simp; omega
  have b61 : ((n : Int) == 61) = false := by simp; omega
  have m46 : ¬ b = 46 := hne 46 (by omega) (by omega)
  have m33 : ¬ b = 33 := hne 33 (by omega) (by omega)
  have m60 : ¬ b = 60 := hne 60 (by omega) (by omega)
  have m62 : ¬ b = 62 := hne 62 (by omega) (by omega)
  have m40 : ¬ b = 40 := hne 40 (by omega) (by omega)
  have m41 : ¬ b = 41 := hne 41 (by omega) (by omega)
  have m91 : ¬ b = 91 := hne 91 (by omega) (by omega)
  have m93 : ¬ b = 93 := hne 93 (by omega) (by omega)
  have m123 : ¬ b = 123 := hne 123 (by omega) (by omega)
  have m125 : ¬ b = 125 := hne 125 (by omega) (by omega)
  have m44 : ¬ b = 44 := hne 44 (by omega) (by omega)
  have m43 : ¬ b = 43 := hne 43 (by omega) (by omega)
  have m45 : ¬ b = 45 := hne 45 (by omega) (by omega)
  have m42 : ¬ b = 42 := hne 42 (by omega) (by omega)
  have m61 : ¬ b = 61 := hne 61 (by omega) (by omega)
  have HR : Hid (R = 0) := by show _ = _; rw [hR, signL_cons]; simp [m46, m33, m60, m62, m40, m41, m91, m93, m123, m125, m44, m43, m45, m42, m61]
  clear h hs e0 hn key hne hc hR hl m46 m33 m60 m62 m40 m41 m91 m93 m123 m125 m44 m43 m45 m42 m61
  go_enter Tryd.func35, Tryd.ntmps35
  go_wp2
  go_ret
  exact ⟨by rw [HR.out]; rfl, by first | rfl | trivial⟩
end Go.Proofs.YtdafnkfnaknoiaaDoor
