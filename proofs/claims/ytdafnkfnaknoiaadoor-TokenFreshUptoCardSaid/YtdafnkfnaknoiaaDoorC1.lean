/- Contracts of package token's readers of characters. -/
import Derived.Test.YtdafnkfnaknoiaaDoorP1
import Derived.WalkKit
import Derived.OwnWalk
import Derived.LoopN
import Derived.WalkSpells
import Derived.WalkLawsBesides
import Derived.Lib.Hide
namespace Go.Proofs.YtdafnkfnaknoiaaDoor
open Go Go.RowKit
set_option maxHeartbeats 1000000
set_option linter.unusedVariables false
set_option linter.unusedSimpArgs false
def hexN (o : Option Nat) : Int := match o with | none => 0 | some x => x
theorem hexV_cases (c : UInt8) : ∃ n : Nat, n = c.toNat ∧ n < 256 ∧ ((48 ≤ n ∧ n ≤ 57 ∧ hexV c = some (n - 48)) ∨ (57 < n ∧ n < 65 ∧ hexV c = none) ∨ (n < 48 ∧ hexV c = none) ∨ (97 ≤ n ∧ n ≤ 102 ∧ hexV c = some (n - 87)) ∨ (102 < n ∧ hexV c = none) ∨ (65 ≤ n ∧ n ≤ 70 ∧ hexV c = some (n - 55)) ∨ (70 < n ∧ n < 97 ∧ hexV c = none)) := by
  refine ⟨c.toNat, rfl, c.toNat_lt, ?_⟩
  unfold hexV
  obtain ⟨n, hn⟩ : ∃ n : Nat, n = c.toNat := ⟨_, rfl⟩
  rw [← hn]
  by_cases h1 : 48 ≤ n ∧ n ≤ 57
  · simp [h1]
  · by_cases h2 : 97 ≤ n ∧ n ≤ 102
    · simp [h1, h2]
    · by_cases h3 : 65 ≤ n ∧ n ≤ 70
      · simp [h1, h2, h3]
      · simp [h1, h2, h3]
        omega
theorem hexDigit_any (c : UInt8) (w : World) : Calls Tryd.prog 86 #[.int .u8 c.toNat] w fun e w' => e = .returned (.tuple #[.int .u8 (hexN (hexV c)), .bool (hexV c).isSome]) ∧ w' = w := by
  obtain ⟨n, hn, hc, hx⟩ := hexV_cases c
  rw [← hn]
  clear hn
  rcases hx with ⟨h1, h2, h⟩ | ⟨h1, h2, h⟩ | ⟨h1, h⟩ | ⟨h1, h2, h⟩ | ⟨h1, h⟩ | ⟨h1, h2, h⟩ | ⟨h1, h2, h⟩
  all_goals
    rw [h]
    clear h
    go_enter Tryd.func86, Tryd.ntmps86
    go_wp2
    go_ret2
    refine ⟨?_, by first | rfl | trivial⟩
    first | rfl | (simp [hexN]; done) | (simp [hexN]; omega)
theorem hd_none (c : UInt8) (h : hexV c = none) (w : World) : Calls Tryd.prog 86 #[.int .u8 c.toNat] w fun e w' => e = .returned (.tuple #[.int .u8 0, .bool false]) ∧ w' = w := by
  have := hexDigit_any c w
  rw [h] at this
  exact this
theorem hd_some (c : UInt8) (x : Nat) (h : hexV c = some x) (w : World) : Calls Tryd.prog 86 #[.int .u8 c.toNat] w fun e w' => e = .returned (.tuple #[.int .u8 x, .bool true]) ∧ w' = w := by
  have := hexDigit_any c w
  rw [h] at this
  exact this
/-- what a reader of characters answers -/
def chV : Ch → Value
  | .opn => .tuple #[.int .u8 0, .int .i64 0, .int .i64 52]
  | .bad E => .tuple #[.int .u8 0, .int .i64 0, .int .i64 E]
  | .ok b n => .tuple #[.int .u8 b.toNat, .int .i64 n, .int .i64 0]
def ChPost (c : Ch) (w : World) (e : Ending) (w' : World) : Prop := e = .returned (chV c) ∧ w' = w
theorem or16 : ∀ x : Fin 16, ∀ y : Fin 16, bits .or .u8 (bits .or .u8 0 (x.val : Int) * 16 % 256) (y.val : Int) = (((UInt8.ofNat (16 * x.val + y.val)).toNat : Nat) : Int) := by decide
theorem at_of {s : ByteArray} {k : Nat} {c : UInt8} {l : List UInt8} (h : s.data.toList = l) (hl : l[k]? = some c) (hk : k < s.size) : s[k]'hk = c := by
  have : s.data.toList[k]? = some c := by rw [h, hl]
  rw [List.getElem?_eq_getElem (by simpa using hk)] at this
  exact Option.some.inj this
theorem size_of {s : ByteArray} {l : List UInt8} (h : s.data.toList = l) : s.size = l.length := by rw [← h]; simp
theorem hex_any (s : ByteArray) (a0 a1 : UInt8) (r : List UInt8) (h : s.data.toList = a0 :: a1 :: r) (w : World) : Calls Tryd.prog 77 #[.string s] w (ChPost (hexL r) w) := by
  have hs := size_of h
  rcases r with _ | ⟨a, r⟩
  · have b2 : ((2 : Int) == (s.size : Int)) = true := by simp [hs]
    clear h hs
    go_enter Tryd.func77, Tryd.ntmps77
    go_wp2_with fail
    refine wp_loop_rounds 3 ?_
    rw [rounds_succ]
    go_wp2
    go_ret3
    exact ⟨rfl, rfl⟩
  · have g2 : 2 < s.size := by rw [hs]; simp
    have e2 : s[2]'g2 = a := at_of h rfl g2
    have b2 : ((2 : Int) == (s.size : Int)) = false := by simp [hs]; omega
    rcases hv : hexV a with _ | x
    · have He : Hid (hexL (a :: r) = .bad 51) := by show _ = _; simp [hexL, hv]
      have H2 : Hid (hexV (s[2]'g2) = none) := by show _ = _; rw [e2, hv]
      clear h hs hv e2
      go_enter Tryd.func77, Tryd.ntmps77
      go_wp2_with fail
      refine wp_loop_rounds 3 ?_
      rw [rounds_succ]
      go_wp2_with (go_at_call 86; refine (hd_none _ H2.out _).mono ?_; rintro e w' ⟨rfl, hw⟩; obtain rfl := hw.symm)
      go_ret3
      exact ⟨by rw [He.out]; rfl, by first | rfl | trivial⟩
    · have hx := hexV_lt hv
      rcases r with _ | ⟨b, r⟩
      · have He : Hid (hexL [a] = .opn) := by show _ = _; simp [hexL, hv]
        have H2 : Hid (hexV (s[2]'g2) = some x) := by show _ = _; rw [e2, hv]
        have b3 : ((3 : Int) == (s.size : Int)) = true := by simp [hs]
        clear h hs hv e2
        go_enter Tryd.func77, Tryd.ntmps77
        go_wp2_with fail
        refine wp_loop_rounds 3 ?_
        rw [rounds_succ]
        go_wp2_with (go_at_call 86; refine (hd_some _ _ H2.out _).mono ?_; rintro e w' ⟨rfl, hw⟩; obtain rfl := hw.symm)
        rw [rounds_succ]
        go_wp2
        go_ret3
        exact ⟨by rw [He.out]; rfl, by first | rfl | trivial⟩
      · have g3 : 3 < s.size := by rw [hs]; simp
        have e3 : s[3]'g3 = b := at_of h rfl g3
        have b3 : ((3 : Int) == (s.size : Int)) = false := by simp [hs]; omega
        have H2 : Hid (hexV (s[2]'g2) = some x) := by show _ = _; rw [e2, hv]
        rcases hv3 : hexV b with _ | y
        · have He : Hid (hexL (a :: b :: r) = .bad 51) := by show _ = _; simp [hexL, hv, hv3]
          have H3 : Hid (hexV (s[3]'g3) = none) := by show _ = _; rw [e3, hv3]
          clear h hs hv e2 e3 hv3
          go_enter Tryd.func77, Tryd.ntmps77
          go_wp2_with fail
          refine wp_loop_rounds 3 ?_
          rw [rounds_succ]
          go_wp2_with (go_at_call 86; refine (hd_some _ _ H2.out _).mono ?_; rintro e w' ⟨rfl, hw⟩; obtain rfl := hw.symm)
          rw [rounds_succ]
          go_wp2_with (go_at_call 86; refine (hd_none _ H3.out _).mono ?_; rintro e w' ⟨rfl, hw⟩; obtain rfl := hw.symm)
          go_ret3
          exact ⟨by rw [He.out]; rfl, by first | rfl | trivial⟩
        · have hy := hexV_lt hv3
          have He : Hid (hexL (a :: b :: r) = .ok (UInt8.ofNat (16 * x + y)) 4) := by show _ = _; simp [hexL, hv, hv3]
          have H3 : Hid (hexV (s[3]'g3) = some y) := by show _ = _; rw [e3, hv3]
          clear h hs hv e2 e3 hv3
          go_enter Tryd.func77, Tryd.ntmps77
          go_wp2_with fail
          refine wp_loop_rounds 3 ?_
          rw [rounds_succ]
          go_wp2_with (go_at_call 86; refine (hd_some _ _ H2.out _).mono ?_; rintro e w' ⟨rfl, hw⟩; obtain rfl := hw.symm)
          rw [rounds_succ]
          go_wp2_with (go_at_call 86; refine (hd_some _ _ H3.out _).mono ?_; rintro e w' ⟨rfl, hw⟩; obtain rfl := hw.symm)
          rw [rounds_succ]
          go_wp2
          go_ret3
          refine ⟨?_, by first | rfl | trivial⟩
          rw [He.out]
          have e16 : bits .or .u8 (bits .or .u8 0 (x : Int) * 16 % 256) (y : Int) = (((UInt8.ofNat (16 * x + y)).toNat : Nat) : Int) := or16 ⟨x, hx⟩ ⟨y, hy⟩
          show Ending.returned (.tuple #[.int .u8 (bits .or .u8 (bits .or .u8 0 (x : Int) * 16 % 256) (y : Int)), .int .i64 4, .int .i64 0]) = _
          rw [e16]
          rfl
def EscPost (c : Ch) (w : World) (e : Ending) (w' : World) : Prop := ChPost c w e w'
theorem ne_of_u8 {d : UInt8} {k : Nat} (h : d ≠ UInt8.ofNat k) (hk : k < 256) : d.toNat ≠ k := by
  intro he
  apply h
  apply UInt8.toNat_inj.1
  rw [he, UInt8.toNat_ofNat']
  omega
theorem escaped_any (s : ByteArray) (a0 : UInt8) (r : List UInt8) (h : s.data.toList = a0 :: r) (w : World) : Calls Tryd.prog 66 #[.string s] w (ChPost (escC r) w) := by
  have hs := size_of h
  rcases r with _ | ⟨b, r⟩
  · have b2 : decide ((s.size : Int) < 2) = true := by simp [hs]
    clear h hs
    go_enter Tryd.func66, Tryd.ntmps66
    go_wp2
    go_ret3
    exact ⟨rfl, rfl⟩
  · have g1 : 1 < s.size := by rw [hs]; simp
    have e1 : s[1]'g1 = b := at_of h rfl g1
    have b2 : decide ((s.size : Int) < 2) = false := by simp [hs]; omega
    have Hh := Lib.hid h
    obtain ⟨n, hn⟩ : ∃ n : Nat, n = b.toNat := ⟨_, rfl⟩
    have E1 : ((s[1]'g1).toNat : Int) = n := by rw [e1, hn]
    have EB : Hid ((n : Int) = b.toNat) := by show _ = _; rw [hn]
    have hb := b.toNat_lt
    rw [← hn] at hb
    by_cases q34 : n = 34
    · have He : Hid (escC (b :: r) = .ok b 2) := by
        show _ = _
        rw [escC, if_pos (.inl (UInt8.toNat_inj.1 (by rw [← hn, q34]; rfl)))]
      have hq : (n : Int) = 34 := by omega
      clear h hs e1 hn q34
      go_enter Tryd.func66, Tryd.ntmps66
      go_wp2
      go_ret3
      refine ⟨?_, by first | rfl | trivial⟩
      rw [He.out]
      show Ending.returned (.tuple #[.int .u8 _, .int .i64 2, .int .i64 0]) = Ending.returned (.tuple #[.int .u8 b.toNat, .int .i64 2, .int .i64 0])
      rw [← EB.out, hq]
    by_cases q92 : n = 92
    · have He : Hid (escC (b :: r) = .ok b 2) := by
        show _ = _
        rw [escC, if_pos (.inr (UInt8.toNat_inj.1 (by rw [← hn, q92]; rfl)))]
      have hq : (n : Int) = 92 := by omega
      clear h hs e1 hn q92
      go_enter Tryd.func66, Tryd.ntmps66
      go_wp2
      go_ret3
      refine ⟨?_, by first | rfl | trivial⟩
      rw [He.out]
      show Ending.returned (.tuple #[.int .u8 _, .int .i64 2, .int .i64 0]) = Ending.returned (.tuple #[.int .u8 b.toNat, .int .i64 2, .int .i64 0])
      rw [← EB.out, hq]
    by_cases q110 : n = 110
    · have He : Hid (escC (b :: r) = .ok 10 2) := by
        show _ = _
        rw [escC, if_neg (by intro hh; rcases hh with hh | hh <;> rw [hh] at hn <;> simp at hn <;> omega), if_pos (UInt8.toNat_inj.1 (by rw [← hn, q110]; rfl))]
      have hq : (n : Int) = 110 := by omega
      clear h hs e1 hn q110
      go_enter Tryd.func66, Tryd.ntmps66
      go_wp2
      go_ret3
      refine ⟨?_, by first | rfl | trivial⟩
      rw [He.out]
      rfl
    by_cases q116 : n = 116
    · have He : Hid (escC (b :: r) = .ok 9 2) := by
        show _ = _
        rw [escC, if_neg (by intro hh; rcases hh with hh | hh <;> rw [hh] at hn <;> simp at hn <;> omega), if_neg (by intro hh; rw [hh] at hn; simp at hn; omega), if_pos (UInt8.toNat_inj.1 (by rw [← hn, q116]; rfl))]
      have hq : (n : Int) = 116 := by omega
      clear h hs e1 hn q116
      go_enter Tryd.func66, Tryd.ntmps66
      go_wp2
      go_ret3
      refine ⟨?_, by first | rfl | trivial⟩
      rw [He.out]
      rfl
    have b34 : ((n : Int) == 34) = false := by simp; omega
    have b92 : ((n : Int) == 92) = false := by simp; omega
    have b110 : ((n : Int) == 110) = false := by simp; omega
    have b116 : ((n : Int) == 116) = false := by simp; omega
    have m1 : ¬ (b = 34 ∨ b = 92) := by intro hh; rcases hh with hh | hh <;> rw [hh] at hn <;> simp at hn <;> omega
    have m2 : ¬ b = 110 := by intro hh; rw [hh] at hn; simp at hn; omega
    have m3 : ¬ b = 116 := by intro hh; rw [hh] at hn; simp at hn; omega
    by_cases q120 : n = 120
    · have He : Hid (escC (b :: r) = hexL r) := by
        show _ = _
        rw [escC, if_neg m1, if_neg m2, if_neg m3, if_pos (UInt8.toNat_inj.1 (by rw [← hn, q120]; rfl))]
      have hq : (n : Int) = 120 := by omega
      clear h hs e1 hn q120 m1 m2 m3
      have HX : Hid (∀ w, Calls Tryd.prog 77 #[.string s] w (ChPost (hexL r) w)) := fun w => hex_any s a0 b r Hh.out w
      rw [show escC (b :: r) = hexL r from He.out]
      rcases hc : hexL r with _ | E | ⟨c, m⟩
      all_goals
        have HC : Hid (hexL r = _) := hc
        clear hc
        go_enter Tryd.func66, Tryd.ntmps66
        go_wp2_with (go_at_call 77; refine (HX.out _).mono ?_; rw [HC.out]; rintro e w' ⟨rfl, hw⟩; obtain rfl := hw.symm; simp only [chV])
        go_ret3
        exact ⟨rfl, by first | rfl | trivial⟩
    · have He : Hid (escC (b :: r) = .bad 51) := by
        show _ = _
        rw [escC, if_neg m1, if_neg m2, if_neg m3, if_neg (by intro hh; rw [hh] at hn; simp at hn; omega)]
      have b120 : ((n : Int) == 120) = false := by simp; omega
      clear h hs e1 hn m1 m2 m3
      go_enter Tryd.func66, Tryd.ntmps66
      go_wp2
      go_ret3
      refine ⟨?_, by first | rfl | trivial⟩
      rw [He.out]
      rfl
end Go.Proofs.YtdafnkfnaknoiaaDoor
