/- Contract of the document's own answer's Name. -/
import Derived.Test.YtlinpkmfjkcoiaaDoorT2
namespace Go.Proofs.YtlinpkmfjkcoiaaDoor
open Go Go.RowKit
set_option maxHeartbeats 1000000
set_option linter.unusedVariables false
set_option linter.unusedSimpArgs false
theorem take_isW {s : ByteArray} {k : Nat} (hk : k < s.size) (h : ∀ x ∈ s.data.toList.take k, isW x = true) (hb : isW s[k] = true) : ∀ x ∈ s.data.toList.take (k + 1), isW x = true := by
  intro x hx
  rw [List.take_add_one, at_some hk] at hx
  simp only [List.mem_append, Option.toList_some, List.mem_singleton] at hx
  rcases hx with hx | rfl
  · exact h x hx
  · exact hb
set_option maxRecDepth 100000 in
theorem name_r (s : ByteArray) (w : World) : Calls Tryd.prog 56 #[.string s] w fun e w' => e = .returned (.bool (nameL s.toList)) ∧ Below w.heap.size w w' := by
  have hl := len_eq s
  by_cases h0 : 0 < s.size
  · have hh := head_of h0
    have d1 : decide ((s.size : Int) < 1) = false := by simp; omega
    by_cases h32 : s.size ≤ 32
    · have d0 : decide (32 < (s.size : Int)) = false := by simp; omega
      cases hd : dgt (s[0].toNat : Int)
      · cases hw : ofLang s.toList
        · have HN1 : Hid (wl s.toList = s.size → nameL s.toList = true) := by
            show _ → _
            intro h
            unfold nameL
            rw [hl, hh, hd, hw, decide_eq_true (show 1 ≤ s.size by omega), decide_eq_true h32, decide_eq_true h]
            rfl
          have HN0 : Hid (wl s.toList ≠ s.size → nameL s.toList = false) := by
            show _ → _
            intro h
            unfold nameL
            rw [hl, decide_eq_false h]
            simp
          have HWW := Lib.hid hw
          have HDD := Lib.hid hd
          have HTL : Hid (s.toList = s.data.toList) := ByteArray.toList_eq (bs := s)
          have HLL := Lib.hid hl
          clear hl hh hw hd
          go_enter Tryd.func56, Tryd.ntmps56
          go_wp2_with (first | (go_at_call 83; refine (digit_r _ _).mono ?_; rw [HDD.out]; rintro e w' ⟨rfl, hw'⟩; obtain rfl := hw'.symm) | (go_at_call 84; refine (word_r _ _).mono ?_; rw [HWW.out]; rintro e w1 ⟨rfl, hb1⟩))
          have HB1 := Lib.hid hb1
          go_loopw [3] (fun i wr => ∃ k : Nat, k ≤ s.size ∧ i = .int .i64 k ∧ wr = w1 ∧ ∀ x ∈ s.data.toList.take k, isW x = true) (fun i _ => s.size - (intOf i).toNat)
          case atStart => exact ⟨0, Nat.zero_le _, rfl, rfl, by simp⟩
          case round =>
            obtain ⟨k, hk, rfl, rfl, hall⟩ := hrel
            have HA := Lib.hid hall
            clear hall hb1
            by_cases hlt : k < s.size
            · have HS := Lib.hid (at_some hlt)
              cases hq : wch (s[k].toNat : Int)
              · have HR : Hid (nameL s.toList = false) := HN0.out (by rw [HTL.out, wl_stop HA.out HS.out hq]; omega)
                have HQ := Lib.hid hq
                clear hq
                go_wp2_with (go_at_call 85; refine (inWord_r _ _).mono ?_; rw [HQ.out]; rintro e w' ⟨rfl, hw'⟩; obtain rfl := hw'.symm)
                go_ret
                exact ⟨by rw [HR.out]; rfl, HB1.out⟩
              · have HQ := Lib.hid hq
                clear hq
                go_wp2_with (go_at_call 85; refine (inWord_r _ _).mono ?_; rw [HQ.out]; rintro e w' ⟨rfl, hw'⟩; obtain rfl := hw'.symm)
                go_roundw
                case rel => exact ⟨k + 1, by omega, by go_num, by first | rfl | trivial, take_isW hlt HA.out HQ.out⟩
                case measure => simp [intOf]; omega
            · have hkk : k = s.size := by omega
              have HR : Hid (nameL s.toList = true) := HN1.out (by
                rw [HTL.out, wl_all (l := s.data.toList) (fun x hx => HA.out x (by rw [List.take_of_length_le (by rw [← HTL.out, HLL.out]; omega)]; exact hx)), ← HTL.out, HLL.out])
              clear hkk
              go_wp2
              go_ret
              exact ⟨by rw [HR.out]; rfl, HB1.out⟩
        · have HN : Hid (nameL s.toList = false) := by
            show _ = _
            unfold nameL
            rw [hw]
            simp
          have HWW := Lib.hid hw
          have HDD := Lib.hid hd
          clear hl hh hw hd
          go_enter Tryd.func56, Tryd.ntmps56
          go_wp2_with (first | (go_at_call 83; refine (digit_r _ _).mono ?_; rw [HDD.out]; rintro e w' ⟨rfl, hw'⟩; obtain rfl := hw'.symm) | (go_at_call 84; refine (word_r _ _).mono ?_; rw [HWW.out]; rintro e w1 ⟨rfl, hb1⟩))
          go_ret
          exact ⟨by rw [HN.out]; rfl, hb1⟩
      · have HN : Hid (nameL s.toList = false) := by
          show _ = _
          unfold nameL
          rw [hh, hd]
          simp
        have HDD := Lib.hid hd
        clear hl hh hd
        go_enter Tryd.func56, Tryd.ntmps56
        go_wp2_with (first | (go_at_call 83; refine (digit_r _ _).mono ?_; rw [HDD.out]; rintro e w' ⟨rfl, hw'⟩; obtain rfl := hw'.symm))
        go_ret
        exact ⟨by rw [HN.out]; rfl, Below.refl _ _⟩
    · have d0 : decide (32 < (s.size : Int)) = true := by simp; omega
      have HN : Hid (nameL s.toList = false) := by
        show _ = _
        unfold nameL
        rw [hl, decide_eq_false h32]
        simp
      clear hl hh
      go_enter Tryd.func56, Tryd.ntmps56
      go_wp2
      go_ret
      exact ⟨by rw [HN.out]; rfl, Below.refl _ _⟩
  · have he : s.toList = [] := List.eq_nil_of_length_eq_zero (by omega)
    have d1 : decide ((s.size : Int) < 1) = true := by simp; omega
    have HN : Hid (nameL s.toList = false) := by show _ = _; rw [he]; rfl
    clear hl he
    go_enter Tryd.func56, Tryd.ntmps56
    go_wp2
    go_ret
    exact ⟨by rw [HN.out]; rfl, Below.refl _ _⟩
end Go.Proofs.YtlinpkmfjkcoiaaDoor
