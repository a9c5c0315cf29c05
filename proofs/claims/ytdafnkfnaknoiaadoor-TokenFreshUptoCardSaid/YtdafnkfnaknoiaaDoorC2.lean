/- Contracts of package token: a string's character; the length of a sign. -/
import Derived.Test.YtdafnkfnaknoiaaDoorC1
import Derived.WalkKit
import Derived.OwnWalk
import Derived.LoopN
import Derived.WalkSpells
import Derived.WalkLawsBesides
import Derived.Lib.Hide
namespace Go.Proofs.YtdafnkfnaknoiaaDoor
open Go Go.RowKit
set_option maxHeartbeats 1000000
set_option linter.unusedVariables false
set_option linter.unusedSimpArgs false
theorem eq_nil' {s : ByteArray} {l : List UInt8} (h : s.data.toList = l) : (s.toList == []) = l.isEmpty := by
  rw [ByteArray.toList_eq, h]
  cases l <;> rfl
theorem character_any (s : ByteArray) (w : World) : Calls Tryd.prog 50 #[.string s] w (ChPost (charL s.data.toList) w) := by
  obtain ⟨l, h⟩ : ∃ l, s.data.toList = l := ⟨_, rfl⟩
  rw [h]
  have hs := size_of h
  rcases l with _ | ⟨b, r⟩
  · have he : (s.toList == []) = true := eq_nil' h
    clear h hs
    go_enter Tryd.func50, Tryd.ntmps50
    go_wp2
    go_ret3
    exact ⟨rfl, rfl⟩
  · have he : (s.toList == []) = false := eq_nil' h
    have g0 : 0 < s.size := by rw [hs]; simp
    have e0 : s[0]'g0 = b := at_of h rfl g0
    have Hh := Lib.hid h
    obtain ⟨n, hn⟩ : ∃ n : Nat, n = b.toNat := ⟨_, rfl⟩
    have E0 : ((s[0]'g0).toNat : Int) = n := by rw [e0, hn]
    have EB : Hid ((n : Int) = b.toNat) := by show _ = _; rw [hn]
    have hb := b.toNat_lt
    rw [← hn] at hb
    by_cases hr : n < 32 ∨ 126 < n
    · have He : Hid (charL (b :: r) = .bad 50) := by show _ = _; rw [charL, if_pos (by rw [← hn]; exact hr)]
      clear h hs e0 hn
      rcases hr with hr | hr
      all_goals
        go_enter Tryd.func50, Tryd.ntmps50
        go_wp2
        go_ret3
        refine ⟨?_, by first | rfl | trivial⟩
        rw [He.out]
        rfl
    · have r1 : 32 ≤ n := by omega
      have r2 : n ≤ 126 := by omega
      by_cases q : n = 92
      · have hb92 : b = 92 := UInt8.toNat_inj.1 (by rw [← hn, q]; rfl)
        have He : Hid (charL (b :: r) = escC r) := by show _ = _; rw [charL, if_neg (by rw [← hn]; exact hr), if_pos hb92]
        have hq : (n : Int) = 92 := by omega
        have HX : Hid (∀ w, Calls Tryd.prog 66 #[.string s] w (ChPost (escC r) w)) := fun w => escaped_any s b r Hh.out w
        rw [show charL (b :: r) = escC r from He.out]
        clear h hs e0 hn r1 r2 hr q hb
        rcases hc : escC r with _ | E | ⟨c, m⟩
        all_goals
          have HC : Hid (escC r = _) := hc
          clear hc
          go_enter Tryd.func50, Tryd.ntmps50
          go_wp2_with (go_at_call 66; refine (HX.out _).mono ?_; rw [HC.out]; rintro e w' ⟨rfl, hw⟩; obtain rfl := hw.symm; simp only [chV])
          go_ret3
          exact ⟨rfl, by first | rfl | trivial⟩
      · have b92 : ((n : Int) == 92) = false := by simp; omega
        have He : Hid (charL (b :: r) = .ok b 1) := by
          show _ = _
          rw [charL, if_neg (by rw [← hn]; exact hr), if_neg (by intro hh; rw [hh] at hn; simp at hn; omega)]
        clear h hs e0 hn hr
        go_enter Tryd.func50, Tryd.ntmps50
        go_wp2
        go_ret3
        refine ⟨?_, by first | rfl | trivial⟩
        rw [He.out]
        show Ending.returned (.tuple #[.int .u8 n, .int .i64 1, .int .i64 0]) = Ending.returned (.tuple #[.int .u8 b.toNat, .int .i64 1, .int .i64 0])
        rw [EB.out]
end Go.Proofs.YtdafnkfnaknoiaaDoor
