/- Contract of the library's ParseUint (the public one) at base 16, 8 bits and two bytes, and of value.hexByte and value.firstByte. -/
import Derived.WalkKit
import Derived.WalkSpells
import Derived.WalkLawsBesides
import Derived.Lib.Hide
import Derived.Lib.ConvBytes
import Derived.LoopN
import Derived.Test.YtkficmbkoinjjaaGreatDoorVH2
namespace Go.Proofs.YtkficmbkoinjjaaGreatDoor.V
open Go Go.RowKit
set_option maxHeartbeats 400000
set_option linter.unusedVariables false
set_option linter.unusedSimpArgs false
theorem conv2_of (t : ByteArray) (x y : UInt8) (h : t.data.toList = [x, y]) (w : World) : ∃ cp, Conv2 t w x.toNat y.toNat cp (Lib.bytesWorld w 5 t) := by
  have hs : t.size = 2 := by
    have := congrArg List.length h
    simpa using this
  refine ⟨grownCap w t.size 0 5, ?_, ?_, ?_, below_bytesWorld w t⟩
  · have := Lib.run_convert_string_bytes (P := Tryz.prog) w 9 87 5 t Tryz.underlying9 Tryz.underlying87 Tryz.underlying5
    rw [hs] at this ⊢
    exact this
  · have := Lib.bytesWorld_cell w 5 t 0 (by omega)
    rw [h] at this
    exact this
  · have := Lib.bytesWorld_cell w 5 t 1 (by omega)
    rw [h] at this
    exact this
theorem toError_syn (fn t : ByteArray) (base nb : Int) (w : World) (hlim : t.size ≤ 281474976710656) {te : TypeId} {pe : Value} (hv : w.cell? ⟨4, 0, none⟩ = some (.iface te pe)) :
    Calls Tryz.prog 111 #[.string fn, .string t, .int .i64 base, .int .i64 nb, .iface 158 (.int .i64 2)] w fun e w' => ∃ N, e = .returned (.iface 161 (.pointer (some ⟨N, 0, none⟩))) ∧ Below w.heap.size w w' :=
  (Any.strconv_toError_syntax Tryz.laysC245 fn t base nb _ w hlim hv (.inr ⟨_, _, rfl⟩)).mono fun _ _ ⟨N, h1, _, _, h2⟩ => ⟨N, h1, h2⟩
def PubAny (a b : Int) (w : World) (e : Ending) (w' : World) : Prop :=
  ∃ (v : Int) (er : Value), e = .returned (.tuple #[.int .u64 v, er]) ∧ Below w.heap.size w w' ∧ (er = .nilIface ∨ ∃ p, er = .iface 161 (.pointer p)) ∧ ∀ x y, LowHex a x → LowHex b y → er = .nilIface ∧ v = x * 16 + y
theorem pub_any (t : ByteArray) (x y : UInt8) (ht : t.data.toList = [x, y]) (w : World) (hv : ErrVars w) :
    Calls Tryz.prog 132 #[.string t, .int .i64 16, .int .i64 8] w (PubAny x.toNat y.toNat w) := by
  obtain ⟨cp, hc⟩ := conv2_of t x y ht w
  have hne : (t.toList == []) = false := by rw [ByteArray.toList_eq, ht]; rfl
  have hsz : t.size ≤ 281474976710656 := by
    have := congrArg List.length ht
    have h2 : t.size = 2 := by simpa using this
    omega
  have H := Lib.hid (pu_any t x.toNat y.toNat w _ cp hc hne (by omega) (by have := x.toNat_lt; omega) (by omega) (by have := y.toNat_lt; omega))
  have HV := Lib.hid hv
  have HS := Lib.hid hsz
  clear hc hne ht hv hsz
  go_enter Tryz.func132, Tryz.ntmps132
  go_wp2_with fail
  refine H.out.mono ?_
  rintro e w1 ⟨v, er, rfl, hb, her, hx⟩
  have HX := Lib.hid hx
  clear hx
  rcases her with rfl | rfl
  · go_wp2
    go_ret2
    exact ⟨v, .nilIface, rfl, hb, .inl rfl, fun x y hx hy => ⟨rfl, (HX.out x y hx hy).2⟩⟩
  · have hv1 := HV.out.below hb
    obtain ⟨te, pe, e2⟩ := hv1.syn
    go_wp2_with (go_at_call 111; refine (toError_syn _ _ _ _ _ HS.out e2).mono ?_; rintro e w2 ⟨N, rfl, hb2⟩)
    go_ret2
    exact ⟨v, _, rfl, hb.trans (hb2.mono hb.size), .inr ⟨_, rfl⟩, fun x y hx hy => absurd (HX.out x y hx hy).1 (by simp)⟩
/-- a pair of a byte and how many bytes it is written with, or 0 -/
def HexPost (l : List UInt8) (w : World) (e : Ending) (w' : World) : Prop :=
  ∃ (c : UInt8) (n : Nat), e = .returned (.tuple #[.int .u8 c.toNat, .int .i64 n]) ∧ Below w.heap.size w w' ∧ n ≤ l.length ∧
    ∀ a b x y rest, l = a :: b :: x :: y :: rest → ∀ p q : Nat, LowHex x.toNat p → LowHex y.toNat q → n = 4 ∧ c = UInt8.ofNat (p * 16 + q)
theorem hb_short (s : ByteArray) (h : s.size < 4) (w : World) : Calls Tryz.prog 120 #[.string s] w (HexPost s.data.toList w) := by
  have hl : Hid (s.data.toList.length = s.size) := by show _ = _; simp
  go_enter Tryz.func120, Tryz.ntmps120
  go_wp2
  go_ret2
  refine ⟨0, 0, rfl, Below.refl _ _, Nat.zero_le _, fun a b x y rest hc => ?_⟩
  have := hl.out
  rw [hc] at this
  simp at this
  omega
theorem hb_long (s : ByteArray) (a b x y : UInt8) (rest : List UInt8) (hs : s.data.toList = a :: b :: x :: y :: rest) (w : World) (hv : ErrVars w) : Calls Tryz.prog 120 #[.string s] w (HexPost s.data.toList w) := by
  have hl : s.data.toList.length = s.size := by simp
  have h4 : 4 ≤ s.size := by rw [← hl, hs]; simp
  have h4i : (4 : Int) ≤ (s.size : Int) := by omega
  have hd : (s.extract 2 4).data.toList = [x, y] := by rw [ByteArray.data_extract]; simp [hs]
  have HC := Lib.hid (pub_any (s.extract 2 4) x y hd)
  have HV := Lib.hid hv
  have HS := Lib.hid hs
  clear hs hd hv hl
  go_enter Tryz.func120, Tryz.ntmps120
  go_wp2_with fail
  refine (HC.out _ HV.out).mono ?_
  rintro e w1 ⟨v, er, rfl, hb, her, hx⟩
  have HX := Lib.hid hx
  clear hx
  rcases her with rfl | ⟨p, rfl⟩
  · go_wp2
    go_ret2
    have e8 : ((UInt8.ofNat (v % 256).toNat).toNat : Int) = v % 256 := by
      rw [UInt8.toNat_ofNat']
      omega
    refine ⟨UInt8.ofNat (v % 256).toNat, 4, by rw [e8]; rfl, hb, by rw [HS.out]; simp, fun a' b' x' y' rest' hc p q hp hq => ?_⟩
    rw [HS.out] at hc
    simp only [List.cons.injEq] at hc
    obtain ⟨rfl, rfl, rfl, rfl, rfl⟩ := hc
    have hv := (HX.out p q hp hq).2
    refine ⟨rfl, ?_⟩
    have : v = ((p * 16 + q : Nat) : Int) := by omega
    rw [this]
    apply UInt8.toNat_inj.1
    rw [UInt8.toNat_ofNat', UInt8.toNat_ofNat']
    omega
  · go_wp2
    go_ret2
    refine ⟨0, 0, rfl, hb, Nat.zero_le _, fun a' b' x' y' rest' hc p q hp hq => ?_⟩
    rw [HS.out] at hc
    simp only [List.cons.injEq] at hc
    obtain ⟨rfl, rfl, rfl, rfl, rfl⟩ := hc
    exact absurd (HX.out p q hp hq).1 (by simp)
def escB (b : UInt8) : List UInt8 := bytesOf (escI b.toNat)
/-- what is written for a byte, by its first two bytes -/
def EscCase (b : UInt8) (l : List UInt8) : Prop :=
  match l with
  | [c] => c = b ∧ c ≠ 92
  | [c, d] => c = 92 ∧ ((d = 34 ∧ b = 34) ∨ (d = 92 ∧ b = 92) ∨ (d = 110 ∧ b = 10) ∨ (d = 116 ∧ b = 9))
  | [c, d, x, y] => c = 92 ∧ d = 120 ∧ LowHex x.toNat (b.toNat / 16 : Nat) ∧ LowHex y.toNat (b.toNat % 16 : Nat)
  | _ => False
instance (b : UInt8) (l : List UInt8) : Decidable (EscCase b l) := by
  unfold EscCase LowHex
  split <;> infer_instance
theorem escB_case (b : UInt8) : EscCase b (escB b) := by
  have h : ∀ x : Fin 256, EscCase (UInt8.ofNat x) (escB (UInt8.ofNat x)) := by decide +kernel
  have := h ⟨b.toNat, b.toNat_lt⟩
  simpa using this
theorem escB_len (b : UInt8) : (escB b).length = (escI b.toNat).length := by simp [escB, bytesOf]
/-- what firstByte answers of a text that is not empty -/
def FbPost (l : List UInt8) (w : World) (e : Ending) (w' : World) : Prop :=
  ∃ (c : UInt8) (n : Nat), e = .returned (.tuple #[.int .u8 c.toNat, .int .i64 n]) ∧ Below w.heap.size w w' ∧ n ≤ l.length ∧ ∀ b rest, l = escB b ++ rest → c = b ∧ n = (escB b).length
theorem fb_case_one {l rest : List UInt8} {b c : UInt8} (h : l = escB b ++ rest) (hc : l.head? = some c) (hne : c ≠ 92) : c = b ∧ (escB b).length = 1 := by
  have hcase := escB_case b
  unfold EscCase at hcase
  split at hcase
  · rename_i x hx
    rw [hx] at h
    subst h
    simp at hc
    subst hc
    exact ⟨hcase.1, by rw [hx]; rfl⟩
  · rename_i x y hx
    rw [hx] at h
    subst h
    simp at hc
    exact absurd (hc.symm.trans hcase.1) hne
  · rename_i x y z t hx
    rw [hx] at h
    subst h
    simp at hc
    exact absurd (hc.symm.trans hcase.1) hne
  · exact absurd hcase (by simp)
theorem fb_plain (s : ByteArray) (h : 0 < s.size) (hne : (((s[0].toNat : Nat) : Int) != 92) = true) (w : World) : Calls Tryz.prog 109 #[.string s] w (FbPost s.data.toList w) := by
  have hl : Hid (s.data.toList.length = s.size) := by show _ = _; simp
  have hh : Hid (s.data.toList.head? = some s[0]) := by
    show _ = _
    rw [List.head?_eq_getElem?, List.getElem?_eq_getElem (by simpa using h)]
    rfl
  have hn2 : Hid (s[0] ≠ 92) := fun he => by rw [he] at hne; simp at hne
  go_enter Tryz.func109, Tryz.ntmps109
  go_wp2
  go_ret2
  refine ⟨s[0], 1, rfl, Below.refl _ _, by rw [hl.out]; omega, fun b rest hb => ?_⟩
  have := fb_case_one hb hh.out hn2.out
  exact ⟨this.1, this.2.symm⟩
/-- of a text of one byte, a backslash -/
theorem fb_case_two {l rest : List UInt8} {b : UInt8} (h : l = escB b ++ rest) (hc : l.head? = some 92) :
    ∃ d l', l = 92 :: d :: l' ∧ ((d = 34 ∧ b = 34 ∧ (escB b).length = 2) ∨ (d = 92 ∧ b = 92 ∧ (escB b).length = 2) ∨ (d = 110 ∧ b = 10 ∧ (escB b).length = 2) ∨ (d = 116 ∧ b = 9 ∧ (escB b).length = 2) ∨
      (d = 120 ∧ (escB b).length = 4 ∧ ∃ x y r, l = 92 :: d :: x :: y :: r ∧ LowHex x.toNat (b.toNat / 16 : Nat) ∧ LowHex y.toNat (b.toNat % 16 : Nat))) := by
  have hcase := escB_case b
  unfold EscCase at hcase
  split at hcase
  · rename_i x hx
    rw [hx] at h
    subst h
    simp at hc
    exact absurd hc hcase.2
  · rename_i x y hx
    rw [hx] at h
    subst h
    simp at hc
    subst hc
    refine ⟨y, rest, rfl, ?_⟩
    rw [hx]
    rcases hcase.2 with ⟨h1, h2⟩ | ⟨h1, h2⟩ | ⟨h1, h2⟩ | ⟨h1, h2⟩
    · exact .inl ⟨h1, h2, rfl⟩
    · exact .inr (.inl ⟨h1, h2, rfl⟩)
    · exact .inr (.inr (.inl ⟨h1, h2, rfl⟩))
    · exact .inr (.inr (.inr (.inl ⟨h1, h2, rfl⟩)))
  · rename_i x y z t hx
    rw [hx] at h
    subst h
    simp at hc
    subst hc
    exact ⟨y, z :: t :: rest, rfl, .inr (.inr (.inr (.inr ⟨hcase.2.1, by rw [hx]; rfl, z, t, rest, rfl, hcase.2.2.1, hcase.2.2.2⟩)))⟩
  · exact absurd hcase (by simp)
theorem fb_slash (s : ByteArray) (h : s.data.toList = [92]) (w : World) : Calls Tryz.prog 109 #[.string s] w (FbPost s.data.toList w) := by
  have hl : s.data.toList.length = s.size := by simp
  have h1 : s.size = 1 := by rw [← hl, h]; rfl
  have h0 : 0 < s.size := by omega
  have h2 : s.size < 2 := by omega
  have e0 : s[0] = 92 := by
    have : s.data.toList[0]? = some 92 := by rw [h]; rfl
    rw [List.getElem?_eq_getElem (by rw [hl]; omega)] at this
    exact Option.some.inj this
  have b0 : (((s[0].toNat : Nat) : Int) != 92) = false := by rw [e0]; rfl
  have HS := Lib.hid h
  clear h hl h1 e0
  go_enter Tryz.func109, Tryz.ntmps109
  go_wp2
  go_ret2
  refine ⟨0, 0, rfl, Below.refl _ _, Nat.zero_le _, fun b rest hb => ?_⟩
  obtain ⟨d, l', hd, _⟩ := fb_case_two hb (by rw [HS.out]; rfl)
  rw [HS.out] at hd
  simp at hd
theorem fb_pair_facts {s : ByteArray} {d : UInt8} {r : List UInt8} (h : s.data.toList = 92 :: d :: r) : ∃ h2 : 2 ≤ s.size, s[0]'(by omega) = 92 ∧ s[1]'(by omega) = d := by
  have hl : s.data.toList.length = s.size := by simp
  have h2 : 2 ≤ s.size := by rw [← hl, h]; simp
  refine ⟨h2, ?_, ?_⟩
  · have : s.data.toList[0]? = some 92 := by rw [h]; rfl
    rw [List.getElem?_eq_getElem (by rw [hl]; omega)] at this
    exact Option.some.inj this
  · have : s.data.toList[1]? = some d := by rw [h]; rfl
    rw [List.getElem?_eq_getElem (by rw [hl]; omega)] at this
    exact Option.some.inj this
theorem fb_pair (s : ByteArray) (d : UInt8) (r : List UInt8) (h : s.data.toList = 92 :: d :: r) (w : World) (hv : ErrVars w) : Calls Tryz.prog 109 #[.string s] w (FbPost s.data.toList w) := by
  obtain ⟨h2, e0, e1⟩ := fb_pair_facts h
  have b0 : (((s[0].toNat : Nat) : Int) != 92) = false := by rw [e0]; rfl
  have HS := Lib.hid h
  have g1 : 1 < s.size := by omega
  have E1 : Hid (s[1]'g1 = d) := e1
  have HV := Lib.hid hv
  have two : Hid (2 ≤ s.data.toList.length) := by show _ ≤ _; rw [h]; simp
  clear h e0 e1 hv
  by_cases q34 : d = 34
  · have c1 : (((s[1]'g1).toNat : Nat) : Int) = 34 := by rw [E1.out, q34]; rfl
    go_enter Tryz.func109, Tryz.ntmps109
    go_wp2
    go_ret2
    refine ⟨34, 2, rfl, Below.refl _ _, two.out, fun b rest hb => ?_⟩
    obtain ⟨d', l', hd, hc⟩ := fb_case_two hb (by rw [HS.out]; rfl)
    rw [HS.out] at hd
    simp only [List.cons.injEq, true_and] at hd
    obtain ⟨rfl, rfl⟩ := hd
    subst q34
    rcases hc with ⟨h1, h2, h3⟩ | ⟨h1, h2, h3⟩ | ⟨h1, h2, h3⟩ | ⟨h1, h2, h3⟩ | ⟨h1, _⟩
    all_goals first | (cases h1; done) | (exact ⟨h2.symm, h3.symm⟩) | exact absurd h1 (by decide)
  by_cases q92 : d = 92
  · have c1 : (((s[1]'g1).toNat : Nat) : Int) = 92 := by rw [E1.out, q92]; rfl
    go_enter Tryz.func109, Tryz.ntmps109
    go_wp2
    go_ret2
    refine ⟨92, 2, rfl, Below.refl _ _, two.out, fun b rest hb => ?_⟩
    obtain ⟨d', l', hd, hc⟩ := fb_case_two hb (by rw [HS.out]; rfl)
    rw [HS.out] at hd
    simp only [List.cons.injEq, true_and] at hd
    obtain ⟨rfl, rfl⟩ := hd
    subst q92
    rcases hc with ⟨h1, h2, h3⟩ | ⟨h1, h2, h3⟩ | ⟨h1, h2, h3⟩ | ⟨h1, h2, h3⟩ | ⟨h1, _⟩
    all_goals first | (cases h1; done) | (exact ⟨h2.symm, h3.symm⟩) | exact absurd h1 (by decide)
  by_cases q110 : d = 110
  · have c1 : (((s[1]'g1).toNat : Nat) : Int) = 110 := by rw [E1.out, q110]; rfl
    go_enter Tryz.func109, Tryz.ntmps109
    go_wp2
    go_ret2
    refine ⟨10, 2, rfl, Below.refl _ _, two.out, fun b rest hb => ?_⟩
    obtain ⟨d', l', hd, hc⟩ := fb_case_two hb (by rw [HS.out]; rfl)
    rw [HS.out] at hd
    simp only [List.cons.injEq, true_and] at hd
    obtain ⟨rfl, rfl⟩ := hd
    subst q110
    rcases hc with ⟨h1, h2, h3⟩ | ⟨h1, h2, h3⟩ | ⟨h1, h2, h3⟩ | ⟨h1, h2, h3⟩ | ⟨h1, _⟩
    all_goals first | (cases h1; done) | (exact ⟨h2.symm, h3.symm⟩) | exact absurd h1 (by decide)
  by_cases q116 : d = 116
  · have c1 : (((s[1]'g1).toNat : Nat) : Int) = 116 := by rw [E1.out, q116]; rfl
    go_enter Tryz.func109, Tryz.ntmps109
    go_wp2
    go_ret2
    refine ⟨9, 2, rfl, Below.refl _ _, two.out, fun b rest hb => ?_⟩
    obtain ⟨d', l', hd, hc⟩ := fb_case_two hb (by rw [HS.out]; rfl)
    rw [HS.out] at hd
    simp only [List.cons.injEq, true_and] at hd
    obtain ⟨rfl, rfl⟩ := hd
    subst q116
    rcases hc with ⟨h1, h2, h3⟩ | ⟨h1, h2, h3⟩ | ⟨h1, h2, h3⟩ | ⟨h1, h2, h3⟩ | ⟨h1, _⟩
    all_goals first | (cases h1; done) | (exact ⟨h2.symm, h3.symm⟩) | exact absurd h1 (by decide)
  have b34 : ((((s[1]'g1).toNat : Nat) : Int) == 34) = false := by
    rw [E1.out]
    have : d.toNat ≠ 34 := fun he => q34 (UInt8.toNat_inj.1 he)
    simpa using (by omega : ((d.toNat : Nat) : Int) ≠ 34)
  have b92 : ((((s[1]'g1).toNat : Nat) : Int) == 92) = false := by
    rw [E1.out]
    have : d.toNat ≠ 92 := fun he => q92 (UInt8.toNat_inj.1 he)
    simpa using (by omega : ((d.toNat : Nat) : Int) ≠ 92)
  have b110 : ((((s[1]'g1).toNat : Nat) : Int) == 110) = false := by
    rw [E1.out]
    have : d.toNat ≠ 110 := fun he => q110 (UInt8.toNat_inj.1 he)
    simpa using (by omega : ((d.toNat : Nat) : Int) ≠ 110)
  have b116 : ((((s[1]'g1).toNat : Nat) : Int) == 116) = false := by
    rw [E1.out]
    have : d.toNat ≠ 116 := fun he => q116 (UInt8.toNat_inj.1 he)
    simpa using (by omega : ((d.toNat : Nat) : Int) ≠ 116)
  by_cases q120 : d = 120
  · have c1 : ((((s[1]'g1).toNat : Nat) : Int) == 120) = true := by rw [E1.out, q120]; rfl
    have HX : Hid (∀ w, ErrVars w → Calls Tryz.prog 120 #[.string s] w (HexPost s.data.toList w)) := by
      intro w hv
      by_cases h4 : s.size < 4
      · exact hb_short s h4 w
      · have hl : s.data.toList.length = s.size := by simp
        rw [HS.out] at hl
        match r, hl, HS.out with
        | [], hl, _ => simp at hl; omega
        | [x], hl, _ => simp at hl; omega
        | x :: y :: r', _, hr => exact hb_long s 92 d x y r' hr w hv
    clear q34 q92 q110 q116
    go_enter Tryz.func109, Tryz.ntmps109
    go_wp2_with fail
    refine (HX.out _ HV.out).mono ?_
    rintro e w1 ⟨c, n, rfl, hb1, hn, hx⟩
    have HN := Lib.hid hx
    clear hx
    go_wp2
    go_ret2
    refine ⟨c, n, rfl, hb1, hn, fun b rest hb => ?_⟩
    obtain ⟨d', l', hd, hc⟩ := fb_case_two hb (by rw [HS.out]; rfl)
    have hd2 := hd
    rw [HS.out] at hd
    simp only [List.cons.injEq, true_and] at hd
    obtain ⟨rfl, rfl⟩ := hd
    subst q120
    rcases hc with ⟨h1, _⟩ | ⟨h1, _⟩ | ⟨h1, _⟩ | ⟨h1, _⟩ | ⟨_, h3, x, y, r', h4, h5, h6⟩
    · exact absurd h1 (by decide)
    · exact absurd h1 (by decide)
    · exact absurd h1 (by decide)
    · exact absurd h1 (by decide)
    · have := HN.out _ _ x y r' h4 _ _ h5 h6
      refine ⟨?_, by rw [this.1, h3]⟩
      rw [this.2]
      have e : b.toNat / 16 * 16 + b.toNat % 16 = b.toNat := by omega
      rw [e]
      simp
  · have c1 : ((((s[1]'g1).toNat : Nat) : Int) == 120) = false := by
      rw [E1.out]
      have : d.toNat ≠ 120 := fun he => q120 (UInt8.toNat_inj.1 he)
      simpa using (by omega : ((d.toNat : Nat) : Int) ≠ 120)
    have Q : Hid (d ≠ 34 ∧ d ≠ 92 ∧ d ≠ 110 ∧ d ≠ 116 ∧ d ≠ 120) := ⟨q34, q92, q110, q116, q120⟩
    clear q34 q92 q110 q116 q120
    go_enter Tryz.func109, Tryz.ntmps109
    go_wp2
    go_ret2
    refine ⟨0, 0, rfl, Below.refl _ _, Nat.zero_le _, fun b rest hb => ?_⟩
    obtain ⟨d', l', hd, hc⟩ := fb_case_two hb (by rw [HS.out]; rfl)
    rw [HS.out] at hd
    simp only [List.cons.injEq, true_and] at hd
    obtain ⟨rfl, rfl⟩ := hd
    have := Q.out
    rcases hc with ⟨h1, _⟩ | ⟨h1, _⟩ | ⟨h1, _⟩ | ⟨h1, _⟩ | ⟨h1, _⟩
    · exact absurd h1 this.1
    · exact absurd h1 this.2.1
    · exact absurd h1 this.2.2.1
    · exact absurd h1 this.2.2.2.1
    · exact absurd h1 this.2.2.2.2
theorem fb_any (s : ByteArray) (h : 0 < s.size) (w : World) (hv : ErrVars w) : Calls Tryz.prog 109 #[.string s] w (FbPost s.data.toList w) := by
  by_cases h92 : s[0] = 92
  · have hl : s.data.toList.length = s.size := by simp
    have hh : s.data.toList[0]? = some s[0] := List.getElem?_eq_getElem (by simpa using h)
    match hs : s.data.toList with
    | [] => rw [hs] at hl; simp at hl; omega
    | [x] =>
      rw [hs] at hh
      simp at hh
      rw [← hs]
      exact fb_slash s (by rw [hs, hh, h92]) w
    | x :: d :: r =>
      rw [hs] at hh
      simp at hh
      rw [← hs]
      exact fb_pair s d r (by rw [hs, hh, h92]) w hv
  · refine fb_plain s h ?_ w
    have : s[0].toNat ≠ 92 := fun he => h92 (UInt8.toNat_inj.1 he)
    simpa using (by omega : ((s[0].toNat : Nat) : Int) ≠ 92)
end Go.Proofs.YtkficmbkoinjjaaGreatDoor.V
