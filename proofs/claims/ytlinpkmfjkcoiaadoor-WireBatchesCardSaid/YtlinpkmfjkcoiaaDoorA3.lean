/- Contracts of package schema's Name. -/
import Derived.Test.YtlinpkmfjkcoiaaDoorA2
namespace Go.Proofs.YtlinpkmfjkcoiaaDoor
open Go Go.RowKit
set_option maxHeartbeats 1000000
set_option linter.unusedVariables false
set_option linter.unusedSimpArgs false
/-- is it a name? -/
def nameL (l : List UInt8) : Bool := decide (1 ≤ l.length) && decide (l.length ≤ 32) && !dgt ((l.headD 0).toNat) && decide (wl l = l.length) && !ofLang l
theorem len_eq (s : ByteArray) : s.toList.length = s.size := by rw [ByteArray.toList_eq]; simp
theorem ne_nil {t : ByteArray} (h : 0 < t.size) : (t.toList == []) = false := by
  cases hc : t.toList == []
  · rfl
  · have := beq_iff_eq.1 hc
    have h2 := len_eq t
    rw [this] at h2
    simp at h2
    omega
theorem head_of {t : ByteArray} (h : 0 < t.size) : t.toList.headD 0 = t[0] := by
  have h1 := at_some h
  rw [← List.head?_eq_getElem?] at h1
  rw [ByteArray.toList_eq, List.headD_eq_head?_getD, h1]
  rfl
set_option maxRecDepth 100000 in
theorem name_any (s : ByteArray) (w : World) (h : Kw w) : Calls Tryd.prog 76 #[.string s] w fun e w' => e = .returned (.bool (nameL s.toList)) ∧ Below w.heap.size w w' := by
  have HK := Lib.hid h
  have hl := len_eq s
  clear h
  by_cases h0 : 0 < s.size
  · have hne := ne_nil h0
    have hh := head_of h0
    have w32 : wrap32 (s[0].toNat : Int) = (s[0].toNat : Int) := by
      have := s[0].toNat_lt
      unfold wrap32
      omega
    by_cases h32 : s.size ≤ 32
    · have d0 : decide (32 < (s.size : Int)) = false := by simp; omega
      cases hd : dgt (s[0].toNat : Int)
      · by_cases hw : wl s.toList = s.size
        · have HN : Hid (nameL s.toList = !ofLang s.toList) := by
            show _ = _
            unfold nameL
            rw [hl, hh, hd, decide_eq_true (show 1 ≤ s.size by omega), decide_eq_true h32, decide_eq_true hw]
            rfl
          have q : ((wl s.toList : Int) == (s.size : Int)) = true := by simp [hw]
          have hd' := ByteArray.toList_eq (bs := s)
          rw [hd'] at q
          have HW := Lib.hid hw
          clear hl hh hw hd'
          go_enter Tryd.func76, Tryd.ntmps76
          go_wp2_with (first | (go_at_call 89; refine (isDigit_any _ _).mono ?_; rintro e w' ⟨rfl, hw'⟩; obtain rfl := hw'.symm) | (go_at_call 90; refine (wordLen_any _ _).mono ?_; rintro e w1 ⟨rfl, hb1⟩) | (go_at_call 91; refine (ofLanguage_any _ _ (HK.out.below hb1)).mono ?_; rintro e w' ⟨rfl, hw'⟩; obtain rfl := hw'.symm))
          go_ret
          exact ⟨by rw [HN.out]; rfl, hb1⟩
        · have HN : Hid (nameL s.toList = false) := by
            show _ = _
            unfold nameL
            rw [hl, decide_eq_false hw]
            simp
          have q : ((wl s.toList : Int) == (s.size : Int)) = false := by simp; omega
          have hd' := ByteArray.toList_eq (bs := s)
          rw [hd'] at q
          clear hl hh hw hd'
          go_enter Tryd.func76, Tryd.ntmps76
          go_wp2_with (first | (go_at_call 89; refine (isDigit_any _ _).mono ?_; rintro e w' ⟨rfl, hw'⟩; obtain rfl := hw'.symm) | (go_at_call 90; refine (wordLen_any _ _).mono ?_; rintro e w1 ⟨rfl, hb1⟩) | (go_at_call 91; refine (ofLanguage_any _ _ (HK.out.below hb1)).mono ?_; rintro e w' ⟨rfl, hw'⟩; obtain rfl := hw'.symm))
          go_ret
          exact ⟨by rw [HN.out]; rfl, hb1⟩
      · have HN : Hid (nameL s.toList = false) := by
          show _ = _
          unfold nameL
          rw [hh, hd]
          simp
        clear hl hh
        go_enter Tryd.func76, Tryd.ntmps76
        go_wp2_with (first | (go_at_call 89; refine (isDigit_any _ _).mono ?_; rintro e w' ⟨rfl, hw'⟩; obtain rfl := hw'.symm))
        go_ret
        exact ⟨by rw [HN.out]; rfl, Below.refl _ _⟩
    · have d0 : decide (32 < (s.size : Int)) = true := by simp; omega
      have HN : Hid (nameL s.toList = false) := by
        show _ = _
        unfold nameL
        rw [hl, decide_eq_false h32]
        simp
      clear hl hh
      go_enter Tryd.func76, Tryd.ntmps76
      go_wp2
      go_ret
      exact ⟨by rw [HN.out]; rfl, Below.refl _ _⟩
  · have he : s.toList = [] := List.eq_nil_of_length_eq_zero (by omega)
    have hne : (s.toList == []) = true := by rw [he]; rfl
    have HN : Hid (nameL s.toList = false) := by show _ = _; rw [he]; rfl
    clear hl he
    go_enter Tryd.func76, Tryd.ntmps76
    go_wp2
    go_ret
    exact ⟨by rw [HN.out]; rfl, Below.refl _ _⟩
end Go.Proofs.YtlinpkmfjkcoiaaDoor
