/- Contract of the document's own answer's Valid. Contracts of the document's own answer's digit, inWord, Word. Contract of the document's own answer's Name. -/
import Derived.Test.YtlinpkmfjkcoiaaDoorH4
namespace Go.Proofs.YtlinpkmfjkcoiaaDoor
open Go Go.RowKit
set_option maxHeartbeats 400000
set_option linter.unusedVariables false
set_option linter.unusedSimpArgs false
theorem valid_r (k n : Int) (s : ByteArray) (b : Bool) (w : World) : Calls Tryd.prog 57 #[.agg #[.int .i64 k, .int .i64 n, .string s, .bool b]] w fun e w' => e = .returned (.bool (valid k n s b)) ∧ Below w.heap.size w w' := by
  have HB : Hid (∀ o, Below w.heap.size w (w.alloc o)) := fun o => (Below.refl _ _).alloc (Nat.le_refl _) o
  by_cases h1 : k = 1
  · subst h1
    have He : Hid (valid 1 n s b = ((s.toList == []) && !b)) := by show _ = _; simp [valid, veq]
    cases hs : (s.toList == []) <;> cases b
    all_goals
      go_enter Tryd.func57, Tryd.ntmps57
      go_wp2
      go_ret
      exact ⟨by rw [He.out, hs]; rfl, HB.out _⟩
  · by_cases h2 : k = 2
    · subst h2
      have He : Hid (valid 2 n s b = ((n == 0) && !b && decide ((s.size : Int) ≤ 256))) := by show _ = _; simp [valid, veq]
      cases hs : (n == 0) <;> cases b <;> cases hl : decide ((s.size : Int) ≤ 256)
      all_goals
        go_enter Tryd.func57, Tryd.ntmps57
        go_wp2
        go_ret
        exact ⟨by rw [He.out, hs, hl]; rfl, HB.out _⟩
    · by_cases h3 : k = 3
      · subst h3
        have He : Hid (valid 3 n s b = ((n == 0) && (s.toList == []))) := by show _ = _; simp [valid, veq]
        cases hs : (n == 0) <;> cases hl : (s.toList == [])
        all_goals
          go_enter Tryd.func57, Tryd.ntmps57
          go_wp2
          go_ret
          exact ⟨by rw [He.out, hs, hl]; rfl, HB.out _⟩
      · have He : Hid (valid k n s b = false) := by show _ = _; unfold valid; rw [if_neg h1, if_neg h2, if_neg h3]
        have q1 : (k == 1) = false := by simp [h1]
        have q2 : (k == 2) = false := by simp [h2]
        have q3 : (k == 3) = false := by simp [h3]
        clear h1 h2 h3
        go_enter Tryd.func57, Tryd.ntmps57
        go_wp2
        go_ret
        exact ⟨by rw [He.out]; rfl, HB.out _⟩
end Go.Proofs.YtlinpkmfjkcoiaaDoor
namespace Go.Proofs.YtlinpkmfjkcoiaaDoor
open Go Go.RowKit
set_option maxHeartbeats 1000000
set_option linter.unusedVariables false
set_option linter.unusedSimpArgs false
theorem digit_r (c : Int) (w : World) : Calls Tryd.prog 83 #[.int .u8 c] w fun e w' => e = .returned (.bool (dgt c)) ∧ w' = w := by
  by_cases h1 : 48 ≤ c
  · by_cases h2 : c ≤ 57
    · have He : Hid (dgt c = true) := by show _ = _; simp [dgt, h1, h2]
      go_enter Tryd.func83, Tryd.ntmps83
      go_wp2
      go_ret
      exact ⟨by rw [He.out]; first | rfl | (simp; omega), by first | rfl | trivial⟩
    · have He : Hid (dgt c = false) := by show _ = _; simp [dgt, h2]
      go_enter Tryd.func83, Tryd.ntmps83
      go_wp2
      go_ret
      exact ⟨by rw [He.out]; first | rfl | (simp; omega), by first | rfl | trivial⟩
  · have He : Hid (dgt c = false) := by show _ = _; simp [dgt, h1]
    go_enter Tryd.func83, Tryd.ntmps83
    go_wp2
    go_ret
    exact ⟨by rw [He.out]; first | rfl | (simp; omega), by first | rfl | trivial⟩
theorem inWord_r (c : Int) (w : World) : Calls Tryd.prog 85 #[.int .u8 c] w fun e w' => e = .returned (.bool (wch c)) ∧ w' = w := by
  have hx : (97 ≤ c ∧ c ≤ 122) ∨ (97 ≤ c ∧ 122 < c) ∨ (65 ≤ c ∧ c ≤ 90) ∨ (90 < c ∧ c < 97) ∨ c < 65 := by omega
  rcases hx with h | h | h | h | h
  · have He : Hid (wch c = true) := by show _ = _; simp [wch, dgt, ltr]; omega
    go_enter Tryd.func85, Tryd.ntmps85
    go_wp2
    go_ret
    exact ⟨by rw [He.out]; first | rfl | (simp; omega), by first | rfl | trivial⟩
  · have He : Hid (wch c = dgt c) := by
      show _ = _
      have h95 : (c == 95) = false := by simp; omega
      have hl : ltr c = false := by simp [ltr]; omega
      simp [wch, h95, hl]
    have q : (c == 95) = false := by simp; omega
    go_enter Tryd.func85, Tryd.ntmps85
    go_wp2_with (go_at_call 83; refine (digit_r _ _).mono ?_; rintro e w' ⟨rfl, hw'⟩; obtain rfl := hw'.symm)
    go_ret
    exact ⟨by rw [He.out]; first | rfl | (simp; omega), by first | rfl | trivial⟩
  · have He : Hid (wch c = true) := by show _ = _; simp [wch, dgt, ltr]; omega
    go_enter Tryd.func85, Tryd.ntmps85
    go_wp2
    go_ret
    exact ⟨by rw [He.out]; first | rfl | (simp; omega), by first | rfl | trivial⟩
  · by_cases h9 : c = 95
    · subst h9
      have He : Hid (wch 95 = true) := by show _ = _; decide
      go_enter Tryd.func85, Tryd.ntmps85
      go_wp2
      go_ret
      exact ⟨by rw [He.out]; first | rfl | (simp; omega), by first | rfl | trivial⟩
    · have q : (c == 95) = false := by simp; omega
      have He : Hid (wch c = dgt c) := by
        show _ = _
        have hl : ltr c = false := by simp [ltr]; omega
        simp [wch, q, hl]
      go_enter Tryd.func85, Tryd.ntmps85
      go_wp2_with (go_at_call 83; refine (digit_r _ _).mono ?_; rintro e w' ⟨rfl, hw'⟩; obtain rfl := hw'.symm)
      go_ret
      exact ⟨by rw [He.out]; first | rfl | (simp; omega), by first | rfl | trivial⟩
  · have q : (c == 95) = false := by simp; omega
    have He : Hid (wch c = dgt c) := by
      show _ = _
      have hl : ltr c = false := by simp [ltr]; omega
      simp [wch, q, hl]
    go_enter Tryd.func85, Tryd.ntmps85
    go_wp2_with (go_at_call 83; refine (digit_r _ _).mono ?_; rintro e w' ⟨rfl, hw'⟩; obtain rfl := hw'.symm)
    go_ret
    exact ⟨by rw [He.out]; first | rfl | (simp; omega), by first | rfl | trivial⟩
def words16 : List (List UInt8) := [[80, 65, 84, 84, 69, 82, 78], [83, 69, 81], [80, 65, 82, 84, 73, 84, 73, 79, 78], [66, 89], [87, 72, 69, 82, 69], [87, 73, 84, 72, 73, 78], [82, 69, 84, 85, 82, 78], [65, 78, 68], [79, 82], [78, 79, 84], [84, 82, 85, 69], [70, 65, 76, 83, 69], [84, 89, 80, 69], [73, 78, 84], [83, 84, 82], [66, 79, 79, 76]]
theorem word_of (l : List UInt8) : words16.contains l = ofLang l := by
  have e : words16 = words13 ++ [[73, 78, 84], [83, 84, 82], [66, 79, 79, 76]] := rfl
  unfold ofLang
  rw [e, List.contains_append]
  congr 1
  unfold kindN
  by_cases h1 : l = [73, 78, 84]
  · subst h1; decide
  · rw [if_neg h1]
    by_cases h2 : l = [83, 84, 82]
    · subst h2; decide
    · rw [if_neg h2]
      by_cases h3 : l = [66, 79, 79, 76]
      · subst h3; decide
      · rw [if_neg h3]
        simp [List.contains_eq_any_beq, h1, h2, h3]
def wordCells : List Value := words16.map fun l => .string ⟨l.toArray⟩
theorem word_cell (w : World) (t : TypeId) (k : Nat) (h : k < 16) : (w.alloc (.cells wordCells.toArray t)).cell? ⟨w.heap.size, k, none⟩ = some (.string ⟨(words16[k]'h).toArray⟩) := by
  have hl : wordCells[k]? = some (.string ⟨(words16[k]'h).toArray⟩) := by
    unfold wordCells
    rw [List.getElem?_map, List.getElem?_eq_getElem (by exact h)]
    rfl
  have := lit_cells w wordCells t k _ hl
  rw [Addr.add_lit, Nat.zero_add] at this
  exact this
set_option maxRecDepth 100000 in
theorem word_r (s : ByteArray) (w : World) : Calls Tryd.prog 84 #[.string s] w fun e w' => e = .returned (.bool (ofLang s.toList)) ∧ Below w.heap.size w w' := by
  obtain ⟨w0, hw0⟩ : ∃ x, x = w.alloc (.cells wordCells.toArray 9) := ⟨_, rfl⟩
  have hb0 : Below w.heap.size w w0 := by rw [hw0]; exact (Below.refl _ _).alloc (Nat.le_refl _) _
  have HB0 := Lib.hid hb0
  have HC : Hid (∀ k (h : k < 16), w0.cell? ⟨w.heap.size, k, none⟩ = some (.string ⟨(words16[k]'h).toArray⟩)) := by show ∀ _, _; rw [hw0]; exact word_cell w 9
  have HW := Lib.hid hw0
  have hlen : words16.length = 16 := rfl
  clear hw0 hb0
  go_enter Tryd.func84, Tryd.ntmps84
  go_upto_region 2 with fail
  refine (show Code.wp Tryd.prog _ _ _ (w.alloc (.cells wordCells.toArray 9)) from ?_)
  rw [← show w0 = _ from HW.out]
  obtain ⟨E, hE⟩ : ∃ E, E = w.heap.size := ⟨_, rfl⟩
  rw [← hE] at HC ⊢
  have HEE := Lib.hid hE
  clear hE
  go_wp2
  go_loopw [4] (fun i wr => ∃ k : Nat, k ≤ 16 ∧ i = .int .i64 k ∧ wr = w0 ∧ (∀ j (h : j < 16), j < k → words16[j]'h ≠ s.toList)) (fun i _ => 16 - (intOf i).toNat)
  case atStart => exact ⟨0, Nat.zero_le _, rfl, rfl, fun j _ h => absurd h (Nat.not_lt_zero _)⟩
  case round =>
    obtain ⟨k, hk, rfl, rfl, hno⟩ := hrel
    have HNO := Lib.hid hno
    clear hno
    by_cases hlt : k < 16
    · have c0 := HC.out k hlt
      obtain ⟨t, ht⟩ : ∃ t : ByteArray, t = ⟨(words16[k]'hlt).toArray⟩ := ⟨_, rfl⟩
      have htl : t.toList = words16[k]'hlt := by rw [ht]; exact toList_mk _
      rw [← ht] at c0
      have HT := Lib.hid htl
      have dl : decide ((k : Int) < 16) = true := by simp; omega
      clear ht htl
      by_cases he : t.toList = s.toList
      · have hq : (t.toList == s.toList) = true := by rw [he]; simp
        have HR : Hid (ofLang s.toList = true) := by
          show _ = _
          rw [← word_of, List.contains_iff_mem, ← he, HT.out]
          exact List.getElem_mem _
        clear he
        go_wp2
        go_ret
        exact ⟨by rw [HR.out]; rfl, HB0.out⟩
      · have hq : (t.toList == s.toList) = false := by
          cases hx : (t.toList == s.toList)
          · rfl
          · exact absurd (beq_iff_eq.1 hx) he
        have HE := Lib.hid he
        clear he
        go_wp2
        go_roundw
        case rel => exact ⟨k + 1, by omega, by go_num, by first | rfl | trivial, fun j hj hjk => by
          by_cases e : j = k
          · subst e; rw [← HT.out]; exact HE.out
          · exact HNO.out j hj (by omega)⟩
        case measure => simp [intOf]; omega
    · have hkk : k = 16 := by omega
      subst hkk
      have HR : Hid (ofLang s.toList = false) := by
        show _ = _
        rw [← word_of]
        cases hx : words16.contains s.toList
        · rfl
        · exfalso
          obtain ⟨j, hj, e⟩ := List.getElem_of_mem (List.contains_iff_mem.1 hx)
          exact HNO.out j hj hj e
      go_wp2
      go_ret
      exact ⟨by rw [HR.out]; rfl, HB0.out⟩
end Go.Proofs.YtlinpkmfjkcoiaaDoor
namespace Go.Proofs.YtlinpkmfjkcoiaaDoor
open Go Go.RowKit
set_option maxHeartbeats 1000000
set_option linter.unusedVariables false
set_option linter.unusedSimpArgs false
theorem take_isW {s : ByteArray} {k : Nat} (hk : k < s.size) (h : ∀ x ∈ s.data.toList.take k, isW x = true) (hb : isW s[k] = true) : ∀ x ∈ s.data.toList.take (k + 1), isW x = true := by
  intro x hx
  rw [List.take_add_one, at_some hk] at hx
  simp only [List.mem_append, Option.toList_some, List.mem_singleton] at hx
  rcases hx with hx | rfl
  · exact h x hx
  · exact hb
set_option maxRecDepth 100000 in
theorem name_r (s : ByteArray) (w : World) : Calls Tryd.prog 56 #[.string s] w fun e w' => e = .returned (.bool (nameL s.toList)) ∧ Below w.heap.size w w' := by
  have hl := len_eq s
  by_cases h0 : 0 < s.size
  · have hh := head_of h0
    have d1 : decide ((s.size : Int) < 1) = false := by simp; omega
    by_cases h32 : s.size ≤ 32
    · have d0 : decide (32 < (s.size : Int)) = false := by simp; omega
      cases hd : dgt (s[0].toNat : Int)
      · cases hw : ofLang s.toList
        · have HN1 : Hid (wl s.toList = s.size → nameL s.toList = true) := by
            show _ → _
            intro h
            unfold nameL
            rw [hl, hh, hd, hw, decide_eq_true (show 1 ≤ s.size by omega), decide_eq_true h32, decide_eq_true h]
            rfl
          have HN0 : Hid (wl s.toList ≠ s.size → nameL s.toList = false) := by
            show _ → _
            intro h
            unfold nameL
            rw [hl, decide_eq_false h]
            simp
          have HWW := Lib.hid hw
          have HDD := Lib.hid hd
          have HTL : Hid (s.toList = s.data.toList) := ByteArray.toList_eq (bs := s)
          have HLL := Lib.hid hl
          clear hl hh hw hd
          go_enter Tryd.func56, Tryd.ntmps56
          go_wp2_with (first | (go_at_call 83; refine (digit_r _ _).mono ?_; rw [HDD.out]; rintro e w' ⟨rfl, hw'⟩; obtain rfl := hw'.symm) | (go_at_call 84; refine (word_r _ _).mono ?_; rw [HWW.out]; rintro e w1 ⟨rfl, hb1⟩))
          have HB1 := Lib.hid hb1
          go_loopw [3] (fun i wr => ∃ k : Nat, k ≤ s.size ∧ i = .int .i64 k ∧ wr = w1 ∧ ∀ x ∈ s.data.toList.take k, isW x = true) (fun i _ => s.size - (intOf i).toNat)
          case atStart => exact ⟨0, Nat.zero_le _, rfl, rfl, by simp⟩
          case round =>
            obtain ⟨k, hk, rfl, rfl, hall⟩ := hrel
            have HA := Lib.hid hall
            clear hall hb1
            by_cases hlt : k < s.size
            · have HS := Lib.hid (at_some hlt)
              cases hq : wch (s[k].toNat : Int)
              · have HR : Hid (nameL s.toList = false) := HN0.out (by rw [HTL.out, wl_stop HA.out HS.out hq]; omega)
                have HQ := Lib.hid hq
                clear hq
                go_wp2_with (go_at_call 85; refine (inWord_r _ _).mono ?_; rw [HQ.out]; rintro e w' ⟨rfl, hw'⟩; obtain rfl := hw'.symm)
                go_ret
                exact ⟨by rw [HR.out]; rfl, HB1.out⟩
              · have HQ := Lib.hid hq
                clear hq
                go_wp2_with (go_at_call 85; refine (inWord_r _ _).mono ?_; rw [HQ.out]; rintro e w' ⟨rfl, hw'⟩; obtain rfl := hw'.symm)
                go_roundw
                case rel => exact ⟨k + 1, by omega, by go_num, by first | rfl | trivial, take_isW hlt HA.out HQ.out⟩
                case measure => simp [intOf]; omega
            · have hkk : k = s.size := by omega
              have HR : Hid (nameL s.toList = true) := HN1.out (by
                rw [HTL.out, wl_all (l := s.data.toList) (fun x hx => HA.out x (by rw [List.take_of_length_le (by rw [← HTL.out, HLL.out]; omega)]; exact hx)), ← HTL.out, HLL.out])
              clear hkk
              go_wp2
              go_ret
              exact ⟨by rw [HR.out]; rfl, HB1.out⟩
        · have HN : Hid (nameL s.toList = false) := by
            show _ = _
            unfold nameL
            rw [hw]
            simp
          have HWW := Lib.hid hw
          have HDD := Lib.hid hd
          clear hl hh hw hd
          go_enter Tryd.func56, Tryd.ntmps56
          go_wp2_with (first | (go_at_call 83; refine (digit_r _ _).mono ?_; rw [HDD.out]; rintro e w' ⟨rfl, hw'⟩; obtain rfl := hw'.symm) | (go_at_call 84; refine (word_r _ _).mono ?_; rw [HWW.out]; rintro e w1 ⟨rfl, hb1⟩))
          go_ret
          exact ⟨by rw [HN.out]; rfl, hb1⟩
      · have HN : Hid (nameL s.toList = false) := by
          show _ = _
          unfold nameL
          rw [hh, hd]
          simp
        have HDD := Lib.hid hd
        clear hl hh hd
        go_enter Tryd.func56, Tryd.ntmps56
        go_wp2_with (first | (go_at_call 83; refine (digit_r _ _).mono ?_; rw [HDD.out]; rintro e w' ⟨rfl, hw'⟩; obtain rfl := hw'.symm))
        go_ret
        exact ⟨by rw [HN.out]; rfl, Below.refl _ _⟩
    · have d0 : decide (32 < (s.size : Int)) = true := by simp; omega
      have HN : Hid (nameL s.toList = false) := by
        show _ = _
        unfold nameL
        rw [hl, decide_eq_false h32]
        simp
      clear hl hh
      go_enter Tryd.func56, Tryd.ntmps56
      go_wp2
      go_ret
      exact ⟨by rw [HN.out]; rfl, Below.refl _ _⟩
  · have he : s.toList = [] := List.eq_nil_of_length_eq_zero (by omega)
    have d1 : decide ((s.size : Int) < 1) = true := by simp; omega
    have HN : Hid (nameL s.toList = false) := by show _ = _; rw [he]; rfl
    clear hl he
    go_enter Tryd.func56, Tryd.ntmps56
    go_wp2
    go_ret
    exact ⟨by rw [HN.out]; rfl, Below.refl _ _⟩
end Go.Proofs.YtlinpkmfjkcoiaaDoor
