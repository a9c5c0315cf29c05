/- The texts of values: plain facts: a number's text is parsed as it; the first byte tells the kind; one text, one value. -/
import Derived.Lib.ItoaLen
import Derived.Lib.ItoaMem
import Derived.WalkKit
import Derived.WalkSpells
import Derived.WalkLawsBesides
import Derived.Lib.Hide
import Derived.Deep.RegionWith
import Derived.Test.YtkficmbkoinjjaaGreatDoorVU1
import Derived.Test.YtkficmbkoinjjaaGreatDoorVS1
namespace Go.Proofs.YtkficmbkoinjjaaGreatDoor.V
open Go Go.RowKit
set_option linter.unusedVariables false
set_option linter.unusedSimpArgs false
theorem decDigits_step (u : Nat) (h : ¬ u < 10) : Lib.decDigits u = Lib.decDigits (u / 10) ++ [UInt8.ofNat (48 + u % 10)] := by
  rw [Lib.decDigits, dif_neg h]
theorem digit_nat (d : Nat) (h : d < 10) : (UInt8.ofNat (48 + d)).toNat = 48 + d := by
  rw [UInt8.toNat_ofNat']
  omega
theorem parseM_dec (M : Nat) (hM : M ≤ 18446744073709551615) : ∀ (u : Nat) (r : List UInt8), u ≤ M → Lib.parseUintM M 0 (Lib.decDigits u ++ r) = Lib.parseUintM M u r := by
  intro u
  induction u using Nat.strongRecOn with
  | _ u ih =>
    intro r hu
    by_cases h : u < 10
    · rw [Lib.decDigits_one h]
      show Lib.parseUintM M 0 (UInt8.ofNat (48 + u) :: r) = _
      rw [Lib.parseUintM, digit_nat u h, if_pos (by omega), if_neg (by omega), if_neg (by omega)]
      congr 1
      omega
    · rw [decDigits_step u h, List.append_assoc, ih (u / 10) (by omega) _ (by omega)]
      show Lib.parseUintM M (u / 10) (UInt8.ofNat (48 + u % 10) :: r) = _
      rw [Lib.parseUintM, digit_nat (u % 10) (by omega), if_pos (by omega), if_neg (by omega), if_neg (by omega)]
      congr 1
      omega
theorem dec_ne (u : Nat) : Lib.decDigits u ≠ [] := by
  by_cases h : u < 10
  · rw [Lib.decDigits_one h]; simp
  · rw [decDigits_step u h]; simp
theorem dec_head (u : Nat) : ∃ c r, Lib.decDigits u = c :: r ∧ 48 ≤ c.toNat ∧ c.toNat ≤ 57 := by
  induction u using Nat.strongRecOn with
  | _ u ih =>
    by_cases h : u < 10
    · exact ⟨_, [], Lib.decDigits_one h, by rw [digit_nat u h]; omega, by rw [digit_nat u h]; omega⟩
    · obtain ⟨c, r, e, h1, h2⟩ := ih (u / 10) (by omega)
      exact ⟨c, r ++ [UInt8.ofNat (48 + u % 10)], by rw [decDigits_step u h, e]; rfl, h1, h2⟩
theorem parseB_dec (u : Nat) (h : u ≤ 18446744073709551615) : Lib.parseUintB 64 (Lib.decDigits u) = .ok u := by
  unfold Lib.parseUintB
  rw [if_neg (dec_ne u)]
  have := parseM_dec (2 ^ 64 - 1) (by decide) u [] (by omega)
  rw [List.append_nil] at this
  rw [this]
  rfl
theorem itoa_head (n : Int) : ∃ c r, Lib.itoa n = c :: r ∧ (c.toNat = 45 ∨ (48 ≤ c.toNat ∧ c.toNat ≤ 57)) := by
  unfold Lib.itoa
  split
  · exact ⟨45, _, rfl, .inl rfl⟩
  · obtain ⟨c, r, e, h⟩ := dec_head n.toNat
    exact ⟨c, r, e, .inr h⟩
theorem parse_itoa (n : Int) (h : I64 n) : Lib.parseIntB 64 (Lib.itoa n) = .ok n := by
  obtain ⟨h0, h1⟩ := h
  by_cases hn : n < 0
  · obtain ⟨u, hu⟩ : ∃ u : Nat, n = -(u : Int) := ⟨n.natAbs, by omega⟩
    subst hu
    rw [Lib.itoa_neg u (by omega)]
    unfold Lib.parseIntB
    simp only [show (45 : UInt8).toNat = 45 from rfl, or_true, if_true]
    rw [parseB_dec u (by omega)]
    simp only [not_true, false_and, if_false, true_and, if_true]
    rw [if_neg (by omega)]
  · obtain ⟨u, hu⟩ : ∃ u : Nat, n = (u : Int) := ⟨n.toNat, by omega⟩
    subst hu
    rw [Lib.itoa_nonneg u]
    obtain ⟨c, r, e, hc0, hc1⟩ := dec_head u
    have hp := parseB_dec u (by omega)
    rw [e] at hp ⊢
    unfold Lib.parseIntB
    simp only []
    rw [if_neg (by omega), hp]
    simp only []
    have hne : ¬ c.toNat = 45 := by omega
    simp only [hne, not_false_eq_true, true_and, false_and, if_false]
    rw [if_neg (by omega)]
theorem bytes_ext {a b : ByteArray} (h : a.data.toList = b.data.toList) : a = b := by
  cases a with | mk x => cases b with | mk y => exact congrArg ByteArray.mk (Array.toList_inj.1 h)
theorem veq_true {k n : Int} {s : ByteArray} {b : Bool} {k' n' : Int} {s' : ByteArray} {b' : Bool} (h : veq k n s b k' n' s' b' = true) : k = k' ∧ n = n' ∧ s = s' ∧ b = b' := by
  unfold veq at h
  simp only [Bool.and_eq_true, beq_iff_eq] at h
  exact ⟨h.1, h.2.1, bytes_ext (by rw [← ByteArray.toList_eq, ← ByteArray.toList_eq]; exact h.2.2.1), h.2.2.2⟩
theorem veq_self (k n : Int) (s : ByteArray) (b : Bool) : veq k n s b k n s b = true := by
  unfold veq
  simp
theorem valid_1' {n : Int} {s : ByteArray} {b : Bool} (h : valid 1 n s b = true) : s = ⟨#[]⟩ ∧ b = false := by
  unfold valid at h
  rw [if_pos rfl] at h
  have := veq_true h
  exact ⟨this.2.2.1, this.2.2.2⟩
theorem valid_2' {n : Int} {s : ByteArray} {b : Bool} (h : valid 2 n s b = true) : n = 0 ∧ b = false := by
  unfold valid at h
  rw [if_neg (by omega), if_pos rfl] at h
  simp only [Bool.and_eq_true] at h
  have := veq_true h.1
  exact ⟨this.2.1, this.2.2.2⟩
theorem valid_3' {n : Int} {s : ByteArray} {b : Bool} (h : valid 3 n s b = true) : n = 0 ∧ s = ⟨#[]⟩ := by
  unfold valid at h
  rw [if_neg (by omega), if_neg (by omega), if_pos rfl] at h
  have := veq_true h
  exact ⟨this.2.1, this.2.2.1⟩
theorem showT_1 {n : Int} {s : ByteArray} {b : Bool} (h : valid 1 n s b = true) : showT 1 n s b = Lib.itoa n := by unfold showT; rw [h]; rfl
theorem showT_2 {n : Int} {s : ByteArray} {b : Bool} (h : valid 2 n s b = true) : showT 2 n s b = quoteL s.data.toList := by unfold showT; rw [h]; rfl
theorem showT_3 {n : Int} {s : ByteArray} {b : Bool} (h : valid 3 n s b = true) : showT 3 n s b = if b = true then [84, 82, 85, 69] else [70, 65, 76, 83, 69] := by unfold showT; rw [h]; rfl
theorem lowHex_inj {c d d' : Int} (h : LowHex c d) (h' : LowHex c d') : d = d' := by
  rcases h with ⟨_, _, _⟩ | ⟨_, _, _⟩ <;> rcases h' with ⟨_, _, _⟩ | ⟨_, _, _⟩ <;> omega
theorem escB_inj {b b' : UInt8} {r r' : List UInt8} (h : escB b ++ r = escB b' ++ r') : b = b' ∧ r = r' := by
  have key : b = b' ∧ (escB b).length = (escB b').length := by
    obtain ⟨l, hl⟩ : ∃ l, l = escB b ++ r := ⟨_, rfl⟩
    have hl' : l = escB b' ++ r' := hl.trans h
    have hp := escB_pos b
    cases hc : l.head? with
    | none =>
      have : l = [] := by cases l <;> simp_all
      rw [this] at hl
      have := congrArg List.length hl
      simp at this
      omega
    | some c =>
      by_cases h92 : c = 92
      · subst h92
        obtain ⟨d, t, e, hd⟩ := fb_case_two hl hc
        obtain ⟨d', t', e', hd'⟩ := fb_case_two hl' hc
        rw [e] at e'
        simp only [List.cons.injEq, true_and] at e'
        obtain ⟨rfl, rfl⟩ := e'
        rcases hd with ⟨h1, h2, h3⟩ | ⟨h1, h2, h3⟩ | ⟨h1, h2, h3⟩ | ⟨h1, h2, h3⟩ | ⟨h1, h3, x, y, q, h4, h5, h6⟩ <;> rcases hd' with ⟨g1, g2, g3⟩ | ⟨g1, g2, g3⟩ | ⟨g1, g2, g3⟩ | ⟨g1, g2, g3⟩ | ⟨g1, g3, x', y', q', g4, g5, g6⟩
        all_goals first
          | (exact ⟨h2.trans g2.symm, h3.trans g3.symm⟩)
          | (exact absurd (h1.symm.trans g1) (by decide))
          | skip
        rw [h4] at g4
        simp only [List.cons.injEq, true_and] at g4
        obtain ⟨rfl, rfl, _⟩ := g4
        have e1 := lowHex_inj h5 g5
        have e2 := lowHex_inj h6 g6
        exact ⟨UInt8.toNat_inj.1 (by omega), h3.trans g3.symm⟩
      · have a := fb_case_one hl hc h92
        have a' := fb_case_one hl' hc h92
        exact ⟨a.1.symm.trans a'.1, a.2.trans a'.2.symm⟩
  exact ⟨key.1, (List.append_inj h key.2).2⟩
theorem escLB_inj : ∀ {m m' : List UInt8}, escLB m = escLB m' → m = m'
  | [], [], _ => rfl
  | [], b :: m, h => by
    have h3 := escB_pos b
    have h4 : (escLB (b :: m)).length = (escB b).length + (escLB m).length := by simp [escLB]
    rw [← h] at h4
    have h5 : (escLB []).length = 0 := rfl
    omega
  | b :: m, [], h => by
    have h3 := escB_pos b
    have h4 : (escLB (b :: m)).length = (escB b).length + (escLB m).length := by simp [escLB]
    rw [h] at h4
    have h5 : (escLB []).length = 0 := rfl
    omega
  | b :: m, b' :: m', h => by
    have := escB_inj (show escB b ++ escLB m = escB b' ++ escLB m' from h)
    rw [this.1, escLB_inj this.2]
theorem quoteL_inj {m m' : List UInt8} (h : quoteL m = quoteL m') : m = m' := by
  rw [quoteL_eq, quoteL_eq] at h
  simp only [List.cons.injEq, true_and] at h
  exact escLB_inj (List.append_cancel_right h)
theorem itoa_inj {n m : Int} (hn : I64 n) (hm : I64 m) (h : Lib.itoa n = Lib.itoa m) : n = m := by
  have := parse_itoa n hn
  rw [h, parse_itoa m hm] at this
  injection this with h
  exact h.symm
/-- of three kinds of texts: what they begin with -/
theorem head_itoa {n : Int} {c : UInt8} {r : List UInt8} (h : Lib.itoa n = c :: r) : c.toNat = 45 ∨ (48 ≤ c.toNat ∧ c.toNat ≤ 57) := by
  obtain ⟨c', r', e, hc⟩ := itoa_head n
  rw [h] at e
  simp only [List.cons.injEq] at e
  rw [e.1]
  exact hc
theorem showT_inj {k n : Int} {s : ByteArray} {b : Bool} {k' n' : Int} {s' : ByteArray} {b' : Bool} (hv : valid k n s b = true) (hv' : valid k' n' s' b' = true) (hn : I64 n) (hn' : I64 n') (h : showT k n s b = showT k' n' s' b') :
    k = k' ∧ n = n' ∧ s = s' ∧ b = b' := by
  rcases valid_kind hv with rfl | rfl | rfl <;> rcases valid_kind hv' with rfl | rfl | rfl
  · obtain ⟨rfl, rfl⟩ := valid_1' hv
    obtain ⟨rfl, rfl⟩ := valid_1' hv'
    rw [showT_1 hv, showT_1 hv'] at h
    exact ⟨rfl, itoa_inj hn hn' h, rfl, rfl⟩
  · rw [showT_1 hv, showT_2 hv', quoteL_eq] at h
    have := head_itoa h
    simp at this
  · rw [showT_1 hv, showT_3 hv'] at h
    cases b' <;> simp at h <;> have := head_itoa h <;> simp at this
  · rw [showT_2 hv, showT_1 hv', quoteL_eq] at h
    have := head_itoa h.symm
    simp at this
  · obtain ⟨rfl, rfl⟩ := valid_2' hv
    obtain ⟨rfl, rfl⟩ := valid_2' hv'
    rw [showT_2 hv, showT_2 hv'] at h
    exact ⟨rfl, rfl, bytes_ext (quoteL_inj h), rfl⟩
  · rw [showT_2 hv, showT_3 hv', quoteL_eq] at h
    cases b' <;> simp at h
  · rw [showT_3 hv, showT_1 hv'] at h
    cases b <;> simp at h <;> have := head_itoa h.symm <;> simp at this
  · rw [showT_3 hv, showT_2 hv', quoteL_eq] at h
    cases b <;> simp at h
  · obtain ⟨rfl, rfl⟩ := valid_3' hv
    obtain ⟨rfl, rfl⟩ := valid_3' hv'
    rw [showT_3 hv, showT_3 hv'] at h
    cases b <;> cases b' <;> simp at h <;> exact ⟨rfl, rfl, rfl, rfl⟩
theorem showT_len {k n : Int} {s : ByteArray} {b : Bool} (hv : valid k n s b = true) (hn : I64 n) : 1 ≤ (showT k n s b).length ∧ (showT k n s b).length ≤ 1026 := by
  rcases valid_kind hv with rfl | rfl | rfl
  · rw [showT_1 hv]
    obtain ⟨c, r, e, _⟩ := itoa_head n
    have h1 := Lib.itoa_length_le n hn.1 hn.2
    refine ⟨by rw [e]; simp, by omega⟩
  · rw [showT_2 hv, quoteL_len]
    have h1 := escL_len s.data.toList
    have h2 := valid_two hv
    have h3 : s.data.toList.length = s.size := by simp
    omega
  · rw [showT_3 hv]
    cases b <;> simp
end Go.Proofs.YtkficmbkoinjjaaGreatDoor.V
/- Contract of value.guess. -/
namespace Go.Proofs.YtkficmbkoinjjaaGreatDoor.V
open Go Go.RowKit
set_option maxHeartbeats 400000
set_option linter.unusedVariables false
set_option linter.unusedSimpArgs false
def GPost (l : List UInt8) (w : World) (e : Ending) (w' : World) : Prop :=
  ∃ (K N : Int) (S : ByteArray) (T ok : Bool), e = .returned (.tuple #[.agg #[.int .i64 K, .int .i64 N, .string S, .bool T], .bool ok]) ∧ Below w.heap.size w w' ∧ (ok = true → I64 N) ∧
    ∀ k n s b, I64 n → valid k n s b = true → l = showT k n s b → ok = true ∧ K = k ∧ N = n ∧ S = s ∧ T = b
theorem i64_zero : I64 0 := by unfold I64; omega
theorem zero_post (l : List UInt8) (w w' : World) (hb : Below w.heap.size w w') (h : ∀ k n s b, I64 n → valid k n s b = true → l ≠ showT k n s b) :
    GPost l w (.returned (.tuple #[.agg #[.int .i64 0, .int .i64 0, .string ⟨#[]⟩, .bool false], .bool false])) w' :=
  ⟨0, 0, ⟨#[]⟩, false, false, rfl, hb, fun _ => i64_zero, fun k n s b hn hv he => absurd he (h k n s b hn hv)⟩
theorem guess_empty (w : World) : Calls Tryz.prog 85 #[.string ⟨#[]⟩] w (GPost [] w) := by
  go_enter Tryz.func85, Tryz.ntmps85
  go_wp2
  refine bodyPost_ret (v := .tuple #[.agg #[.int .i64 0, .int .i64 0, .string ⟨#[]⟩, .bool false], .bool false]) (by simp [results, Tryz.results85, go_sem]) rfl ?_
  refine zero_post _ _ _ ((Below.refl _ _).alloc (Nat.le_refl _) _) fun k n s b hn hv he => ?_
  have := (showT_len hv hn).1
  rw [← he] at this
  simp at this
theorem ne_nil {t : ByteArray} (h : 0 < t.size) : (t.toList == []) = false := by
  cases hc : t.toList == []
  · rfl
  · have := beq_iff_eq.1 hc
    rw [ByteArray.toList_eq] at this
    have h2 : t.data.toList.length = t.size := by simp
    rw [this] at h2
    simp at h2
    omega
theorem guess_long (t : ByteArray) (h : 1026 < t.size) (w : World) : Calls Tryz.prog 85 #[.string t] w (GPost t.data.toList w) := by
  have hne := ne_nil (t := t) (by omega)
  go_enter Tryz.func85, Tryz.ntmps85
  go_wp2
  refine bodyPost_ret (v := .tuple #[.agg #[.int .i64 0, .int .i64 0, .string ⟨#[]⟩, .bool false], .bool false]) (by simp [results, Tryz.results85, go_sem]) rfl ?_
  refine zero_post _ _ _ ((Below.refl _ _).alloc (Nat.le_refl _) _) fun k n s b hn hv he => ?_
  have h1 := (showT_len hv hn).2
  have h2 : t.data.toList.length = t.size := by simp
  rw [← he] at h1
  omega
theorem valid_mk1 (n : Int) : valid 1 n ⟨#[]⟩ false = true := by unfold valid; rw [if_pos rfl]; exact veq_self _ _ _ _
theorem valid_mk2 (s : ByteArray) (h : s.size ≤ 256) : valid 2 0 s false = true := by
  unfold valid
  rw [if_neg (by omega), if_pos rfl, veq_self]
  simp
  omega
theorem valid_mk3 (b : Bool) : valid 3 0 ⟨#[]⟩ b = true := by
  unfold valid
  rw [if_neg (by omega), if_neg (by omega), if_pos rfl]
  exact veq_self _ _ _ _
theorem guess_true (w : World) : Calls Tryz.prog 85 #[.string ⟨#[84, 82, 85, 69]⟩] w (GPost [84, 82, 85, 69] w) := by
  go_enter Tryz.func85, Tryz.ntmps85
  go_wp2_with (go_at_call 72; refine (truth_any _ _).mono ?_; rintro e w' ⟨rfl, rfl⟩)
  refine bodyPost_ret (v := .tuple #[.agg #[.int .i64 3, .int .i64 0, .string ⟨#[]⟩, .bool true], .bool true]) (by simp [results, Tryz.results85, go_sem]) rfl ?_
  refine ⟨3, 0, ⟨#[]⟩, true, true, rfl, ?_, fun _ => i64_zero, fun k n s b hn hv he => ?_⟩
  · repeat (first | exact Below.refl _ _ | apply Below.drew | refine Below.alloc ?_ (by first | omega | (simp; done) | (simp; omega)) _)
  · have hv3 := valid_mk3 true
    have := showT_inj hv3 hv i64_zero hn (by rw [← he, showT_3 hv3]; rfl)
    exact ⟨rfl, this⟩
theorem guess_false (w : World) : Calls Tryz.prog 85 #[.string ⟨#[70, 65, 76, 83, 69]⟩] w (GPost [70, 65, 76, 83, 69] w) := by
  go_enter Tryz.func85, Tryz.ntmps85
  go_wp2_with (go_at_call 72; refine (truth_any _ _).mono ?_; rintro e w' ⟨rfl, rfl⟩)
  refine bodyPost_ret (v := .tuple #[.agg #[.int .i64 3, .int .i64 0, .string ⟨#[]⟩, .bool false], .bool true]) (by simp [results, Tryz.results85, go_sem]) rfl ?_
  refine ⟨3, 0, ⟨#[]⟩, false, true, rfl, ?_, fun _ => i64_zero, fun k n s b hn hv he => ?_⟩
  · repeat (first | exact Below.refl _ _ | apply Below.drew | refine Below.alloc ?_ (by first | omega | (simp; done) | (simp; omega)) _)
  · have hv3 := valid_mk3 false
    have := showT_inj hv3 hv i64_zero hn (by rw [← he, showT_3 hv3]; rfl)
    exact ⟨rfl, this⟩
theorem guess_text (t : ByteArray) (h : 0 < t.size) (hs : t.size ≤ 1026) (hT : (t.toList == [84, 82, 85, 69]) = false) (hF : (t.toList == [70, 65, 76, 83, 69]) = false) (b0 : ((((t[0]'h).toNat : Nat) : Int) == 34) = true) (w : World) (hv : ErrVars w) : Calls Tryz.prog 85 #[.string t] w (GPost t.data.toList w) := by
  have hne := ne_nil h
  have HV := Lib.hid hv
  clear hv
  go_enter Tryz.func85, Tryz.ntmps85
  go_wp2_with fail
  refine (unquote_any t hs _ (HV.out.below ((Below.refl _ _).alloc (Nat.le_refl _) _))).mono ?_
  rintro e w1 ⟨r, ok, rfl, hb1, hx⟩
  have HX := Lib.hid hx
  clear hx
  obtain ⟨hc1, hf1⟩ := bcell hb1
  have hz1 : w.heap.size < w1.heap.size := by have := hb1.size; simp at this; omega
  have hB1 : Below w.heap.size w w1 := ((Below.refl _ _).alloc (Nat.le_refl _) _).trans (hb1.mono (by simp))
  go_wp2_with (go_at_call 71; refine (text_any _ _).mono ?_; rintro e w' ⟨rfl, rfl⟩)
  refine bodyPost_ret (v := .tuple #[.agg #[.int .i64 2, .int .i64 0, .string ⟨r.toArray⟩, .bool false], .bool ok]) (by simp [results, Tryz.results85, go_sem, hz1, hc1]) rfl ?_
  refine ⟨2, 0, ⟨r.toArray⟩, false, ok, rfl, ?_, fun _ => i64_zero, fun k n s b hn hv he => ?_⟩
  · repeat (first | exact hB1 | apply Below.drew | refine Below.setCell ?_ (by show w.heap.size ≤ w.heap.size; omega) _ | refine Below.alloc ?_ (by first | omega | (simp [World.setCell]; done) | (simp [World.setCell]; omega)) _)
  · have e0 : t.data.toList[0]? = some (t[0]'h) := List.getElem?_eq_getElem (by simp; omega)
    have n0 : ((t[0]'h).toNat : Int) = 34 := by simpa using b0
    rcases valid_kind hv with rfl | rfl | rfl
    · rw [he, showT_1 hv] at e0
      obtain ⟨c, q, ec, hcc⟩ := itoa_head n
      rw [ec] at e0
      simp at e0
      rw [e0] at hcc
      omega
    · obtain ⟨rfl, rfl⟩ := valid_2' hv
      rw [showT_2 hv] at he
      obtain ⟨h1, h2⟩ := HX.out _ he
      exact ⟨h1, rfl, rfl, bytes_ext (by rw [h2]), rfl⟩
    · rw [he, showT_3 hv] at e0
      cases b <;> simp at e0 <;> rw [← e0] at n0 <;> simp at n0
theorem i64_of_parse {l : List UInt8} {v : Int} (h : Lib.parseIntB 64 l = .ok v) : I64 v := by
  have := Lib.parseIntB_bounds h
  have e : ((2 ^ (64 - 1) : Nat) : Int) = 9223372036854775808 := by decide
  rw [e] at this
  unfold I64
  omega
theorem num_only {t : ByteArray} (h : 0 < t.size) (hT : (t.toList == [84, 82, 85, 69]) = false) (hF : (t.toList == [70, 65, 76, 83, 69]) = false) (b0 : ((((t[0]'h).toNat : Nat) : Int) == 34) = false)
    {k n : Int} {s : ByteArray} {b : Bool} (hn : I64 n) (hv : valid k n s b = true) (he : t.data.toList = showT k n s b) : k = 1 ∧ t.data.toList = Lib.itoa n := by
  rcases valid_kind hv with rfl | rfl | rfl
  · exact ⟨rfl, by rw [he, showT_1 hv]⟩
  · have e0 : t.data.toList[0]? = some (t[0]'h) := List.getElem?_eq_getElem (by simp; omega)
    rw [he, showT_2 hv, quoteL_eq] at e0
    simp at e0
    rw [← e0] at b0
    exact absurd b0 (by decide)
  · rw [showT_3 hv] at he
    rw [ByteArray.toList_eq, he] at hT hF
    cases b
    · exact absurd hF (by decide)
    · exact absurd hT (by decide)
theorem parseInt_ok (s : ByteArray) (hs : s.size ≤ 2000) (v : Int) (h : Lib.parseIntB 64 s.data.toList = .ok v) (w : World) (hv : ErrVars w) :
    Calls Tryz.prog 99 #[.string s, .int .i64 10, .int .i64 64] w fun e w' => e = .returned (.tuple #[.int .i64 v, .nilIface]) ∧ Below w.heap.size w w' :=
  (parseInt_any s hs w hv).mono fun e w' hp => by
    rcases hp with ⟨x, hx, he, hb⟩ | ⟨x, N, hx, he, hb⟩
    · rw [h] at hx
      injection hx with hx
      subst hx
      exact ⟨he, hb⟩
    · exact absurd h (hx v)
theorem parseInt_bad (s : ByteArray) (hs : s.size ≤ 2000) (h : ∀ v, Lib.parseIntB 64 s.data.toList ≠ .ok v) (w : World) (hv : ErrVars w) :
    Calls Tryz.prog 99 #[.string s, .int .i64 10, .int .i64 64] w fun e w' => (∃ v N, e = .returned (.tuple #[.int .i64 v, .iface 161 (.pointer (some ⟨N, 0, none⟩))])) ∧ Below w.heap.size w w' :=
  (parseInt_any s hs w hv).mono fun e w' hp => by
    rcases hp with ⟨x, hx, he, hb⟩ | ⟨x, N, hx, he, hb⟩
    · exact absurd hx (h x)
    · exact ⟨⟨x, N, he⟩, hb⟩
theorem guess_ok (t : ByteArray) (h : 0 < t.size) (hs : t.size ≤ 1026) (hT : (t.toList == [84, 82, 85, 69]) = false) (hF : (t.toList == [70, 65, 76, 83, 69]) = false) (b0 : ((((t[0]'h).toNat : Nat) : Int) == 34) = false) (v : Int) (hp : Lib.parseIntB 64 t.data.toList = .ok v) (w : World) (hv : ErrVars w) : Calls Tryz.prog 85 #[.string t] w (GPost t.data.toList w) := by
  have hne := ne_nil h
  have HV := Lib.hid hv
  have HP := Lib.hid hp
  clear hv hp
  go_enter Tryz.func85, Tryz.ntmps85
  go_wp2_with fail
  refine (parseInt_ok t (by omega) v HP.out _ (HV.out.below ((Below.refl _ _).alloc (Nat.le_refl _) _))).mono ?_
  rintro e w1 ⟨rfl, hb1⟩
  obtain ⟨hc1, hf1⟩ := bcell hb1
  have hz1 : w.heap.size < w1.heap.size := by have := hb1.size; simp at this; omega
  have hB1 : Below w.heap.size w w1 := ((Below.refl _ _).alloc (Nat.le_refl _) _).trans (hb1.mono (by simp))
  go_wp2_with fail
  first | (go_region_with (first | (go_at_call 70; refine (number_any _ _).mono ?_; rintro e w' ⟨rfl, rfl⟩))) | fail
  all_goals
    go_wp2
    refine bodyPost_ret (v := .tuple #[.agg #[.int .i64 1, .int .i64 v, .string ⟨#[]⟩, .bool false], .bool true]) (by simp [results, Tryz.results85, go_sem, hz1, hc1]) rfl ?_
    refine ⟨1, v, ⟨#[]⟩, false, true, rfl, ?_, fun _ => i64_of_parse HP.out, fun k n s b hn hv he => ?_⟩
    · repeat (first | exact hB1 | apply Below.drew | refine Below.setCell ?_ (by show w.heap.size ≤ w.heap.size; omega) _ | refine Below.alloc ?_ (by first | omega | (simp [World.setCell]; done) | (simp [World.setCell]; omega)) _)
    · obtain ⟨rfl, h2⟩ := num_only h hT hF b0 hn hv he
      obtain ⟨rfl, rfl⟩ := valid_1' hv
      have hp := HP.out
      rw [h2, parse_itoa n hn] at hp
      injection hp with hp
      exact ⟨rfl, rfl, hp.symm, rfl, rfl⟩
theorem guess_bad (t : ByteArray) (h : 0 < t.size) (hs : t.size ≤ 1026) (hT : (t.toList == [84, 82, 85, 69]) = false) (hF : (t.toList == [70, 65, 76, 83, 69]) = false) (b0 : ((((t[0]'h).toNat : Nat) : Int) == 34) = false) (hp : ∀ v, Lib.parseIntB 64 t.data.toList ≠ .ok v) (w : World) (hv : ErrVars w) : Calls Tryz.prog 85 #[.string t] w (GPost t.data.toList w) := by
  have hne := ne_nil h
  have HV := Lib.hid hv
  have HP := Lib.hid hp
  clear hv hp
  go_enter Tryz.func85, Tryz.ntmps85
  go_wp2_with fail
  refine (parseInt_bad t (by omega) HP.out _ (HV.out.below ((Below.refl _ _).alloc (Nat.le_refl _) _))).mono ?_
  rintro e w1 ⟨⟨v, N, rfl⟩, hb1⟩
  obtain ⟨hc1, hf1⟩ := bcell hb1
  have hz1 : w.heap.size < w1.heap.size := by have := hb1.size; simp at this; omega
  have hB1 : Below w.heap.size w w1 := ((Below.refl _ _).alloc (Nat.le_refl _) _).trans (hb1.mono (by simp))
  go_wp2_with fail
  first | (go_region_with (first | (go_at_call 70; refine (number_any _ _).mono ?_; rintro e w' ⟨rfl, rfl⟩))) | fail
  all_goals
    go_wp2
    refine bodyPost_ret (v := .tuple #[.agg #[.int .i64 1, .int .i64 v, .string ⟨#[]⟩, .bool false], .bool false]) (by simp [results, Tryz.results85, go_sem, hz1, hc1]) rfl ?_
    refine ⟨1, v, ⟨#[]⟩, false, false, rfl, ?_, (fun h => absurd h (by decide)), fun k n s b hn hv he => ?_⟩
    · repeat (first | exact hB1 | apply Below.drew | refine Below.setCell ?_ (by show w.heap.size ≤ w.heap.size; omega) _ | refine Below.alloc ?_ (by first | omega | (simp [World.setCell]; done) | (simp [World.setCell]; omega)) _)
    · obtain ⟨rfl, h2⟩ := num_only h hT hF b0 hn hv he
      have hp := HP.out n
      rw [h2] at hp
      exact absurd (parse_itoa n hn) hp
theorem guess_num (t : ByteArray) (h : 0 < t.size) (hs : t.size ≤ 1026) (hT : (t.toList == [84, 82, 85, 69]) = false) (hF : (t.toList == [70, 65, 76, 83, 69]) = false) (b0 : ((((t[0]'h).toNat : Nat) : Int) == 34) = false) (w : World) (hv : ErrVars w) : Calls Tryz.prog 85 #[.string t] w (GPost t.data.toList w) := by
  rcases Classical.em (∃ v, Lib.parseIntB 64 t.data.toList = .ok v) with ⟨v, hp⟩ | hp
  · exact guess_ok t h hs hT hF b0 v hp w hv
  · exact guess_bad t h hs hT hF b0 (fun v hv' => hp ⟨v, hv'⟩) w hv
theorem guess_any (t : ByteArray) (w : World) (hv : ErrVars w) : Calls Tryz.prog 85 #[.string t] w (GPost t.data.toList w) := by
  have hl : t.data.toList.length = t.size := by simp
  by_cases h : 0 < t.size
  · by_cases hs : t.size ≤ 1026
    · cases hT : t.toList == [84, 82, 85, 69]
      · cases hF : t.toList == [70, 65, 76, 83, 69]
        · cases b0 : ((((t[0]'h).toNat : Nat) : Int) == 34)
          · exact guess_num t h hs hT hF b0 w hv
          · exact guess_text t h hs hT hF b0 w hv
        · have e := beq_iff_eq.1 hF
          rw [ByteArray.toList_eq] at e
          rw [e, show t = ⟨#[70, 65, 76, 83, 69]⟩ from bytes_ext e]
          exact guess_false w
      · have e := beq_iff_eq.1 hT
        rw [ByteArray.toList_eq] at e
        rw [e, show t = ⟨#[84, 82, 85, 69]⟩ from bytes_ext e]
        exact guess_true w
    · exact guess_long t (by omega) w
  · have e : t.data.toList = [] := List.eq_nil_of_length_eq_zero (by omega)
    rw [e, show t = ⟨#[]⟩ from bytes_ext e]
    exact guess_empty w
end Go.Proofs.YtkficmbkoinjjaaGreatDoor.V
