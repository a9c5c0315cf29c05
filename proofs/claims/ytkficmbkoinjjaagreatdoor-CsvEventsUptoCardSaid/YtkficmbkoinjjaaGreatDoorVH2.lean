/- Contract of the library's ParseUint at base 16, 8 bits and two bytes: the other classes of bytes, and all together. -/
import Derived.WalkKit
import Derived.WalkSpells
import Derived.WalkLawsBesides
import Derived.Lib.Hide
import Derived.Lib.ConvBytes
import Derived.LoopN
import Derived.Test.YtkficmbkoinjjaaGreatDoorVH1
namespace Go.Proofs.YtkficmbkoinjjaaGreatDoor.V
open Go Go.RowKit
set_option maxHeartbeats 400000
set_option linter.unusedVariables false
set_option linter.unusedSimpArgs false
set_option maxRecDepth 100000 in
theorem pu_LD (t : ByteArray) (a b : Int) (w w1 : World) (cp : Nat) (hc : Conv2 t w a b cp w1) (hne : (t.toList == []) = false) (a0 : 58 ≤ a) (a1 : 97 ≤ lo a) (a2 : lo a ≤ 102) (av : (a == 95) = false) (b0 : 48 ≤ b) (b1 : b ≤ 57) :
    Calls Tryz.prog 121 #[.string t, .int .i64 16, .int .i64 8] w (PuPost ((lo a - 97 + 10) * 16 + (b - 48)) .nilIface w) := by
  obtain ⟨hcv, hc0, hc1, hb⟩ := hc
  have HB := Lib.hid hb
  clear hb
  go_enter Tryz.func121, Tryz.ntmps121
  go_wp2_with fail
  refine wp_loop_rounds 3 ?_
  rw [rounds_succ]
  go_wp2_with (go_at_call 133; refine (lower_any _ _).mono ?_; rintro e w' ⟨rfl, rfl⟩)
  rw [rounds_succ]
  go_wp2_with (go_at_call 133; refine (lower_any _ _).mono ?_; rintro e w' ⟨rfl, rfl⟩)
  rw [rounds_succ]
  go_wp2_with (go_at_call 133; refine (lower_any _ _).mono ?_; rintro e w' ⟨rfl, rfl⟩)
  go_ret2
  exact ⟨rfl, HB.out⟩
set_option maxRecDepth 100000 in
theorem pu_LL (t : ByteArray) (a b : Int) (w w1 : World) (cp : Nat) (hc : Conv2 t w a b cp w1) (hne : (t.toList == []) = false) (a0 : 58 ≤ a) (a1 : 97 ≤ lo a) (a2 : lo a ≤ 102) (av : (a == 95) = false) (b0 : 58 ≤ b) (b1 : 97 ≤ lo b) (b2 : lo b ≤ 102) (bv : (b == 95) = false) :
    Calls Tryz.prog 121 #[.string t, .int .i64 16, .int .i64 8] w (PuPost ((lo a - 97 + 10) * 16 + (lo b - 97 + 10)) .nilIface w) := by
  obtain ⟨hcv, hc0, hc1, hb⟩ := hc
  have HB := Lib.hid hb
  clear hb
  go_enter Tryz.func121, Tryz.ntmps121
  go_wp2_with fail
  refine wp_loop_rounds 3 ?_
  rw [rounds_succ]
  go_wp2_with (go_at_call 133; refine (lower_any _ _).mono ?_; rintro e w' ⟨rfl, rfl⟩)
  rw [rounds_succ]
  go_wp2_with (go_at_call 133; refine (lower_any _ _).mono ?_; rintro e w' ⟨rfl, rfl⟩)
  rw [rounds_succ]
  go_wp2_with (go_at_call 133; refine (lower_any _ _).mono ?_; rintro e w' ⟨rfl, rfl⟩)
  go_ret2
  exact ⟨rfl, HB.out⟩
set_option maxRecDepth 100000 in
theorem pu_LX (t : ByteArray) (a b : Int) (w w1 : World) (cp : Nat) (hc : Conv2 t w a b cp w1) (hne : (t.toList == []) = false) (a0 : 58 ≤ a) (a1 : 97 ≤ lo a) (a2 : lo a ≤ 102) (av : (a == 95) = false) (b0 : 58 ≤ b) (b1 : 103 ≤ lo b) (b2 : lo b ≤ 122) (bv : (b == 95) = false) :
    Calls Tryz.prog 121 #[.string t, .int .i64 16, .int .i64 8] w (PuPost 0 (.iface 158 (.int .i64 2)) w) := by
  obtain ⟨hcv, hc0, hc1, hb⟩ := hc
  have HB := Lib.hid hb
  clear hb
  go_enter Tryz.func121, Tryz.ntmps121
  go_wp2_with fail
  refine wp_loop_rounds 3 ?_
  rw [rounds_succ]
  go_wp2_with (go_at_call 133; refine (lower_any _ _).mono ?_; rintro e w' ⟨rfl, rfl⟩)
  rw [rounds_succ]
  go_wp2_with (go_at_call 133; refine (lower_any _ _).mono ?_; rintro e w' ⟨rfl, rfl⟩)
  go_ret2
  exact ⟨rfl, HB.out⟩
set_option maxRecDepth 100000 in
theorem pu_LM (t : ByteArray) (a b : Int) (w w1 : World) (cp : Nat) (hc : Conv2 t w a b cp w1) (hne : (t.toList == []) = false) (a0 : 58 ≤ a) (a1 : 97 ≤ lo a) (a2 : lo a ≤ 102) (av : (a == 95) = false) (b0 : b < 48) (b1 : lo b < 97) :
    Calls Tryz.prog 121 #[.string t, .int .i64 16, .int .i64 8] w (PuPost 0 (.iface 158 (.int .i64 2)) w) := by
  obtain ⟨hcv, hc0, hc1, hb⟩ := hc
  have HB := Lib.hid hb
  clear hb
  go_enter Tryz.func121, Tryz.ntmps121
  go_wp2_with fail
  refine wp_loop_rounds 3 ?_
  rw [rounds_succ]
  go_wp2_with (go_at_call 133; refine (lower_any _ _).mono ?_; rintro e w' ⟨rfl, rfl⟩)
  rw [rounds_succ]
  go_wp2_with (go_at_call 133; refine (lower_any _ _).mono ?_; rintro e w' ⟨rfl, rfl⟩)
  go_ret2
  exact ⟨rfl, HB.out⟩
set_option maxRecDepth 100000 in
theorem pu_LN (t : ByteArray) (a b : Int) (w w1 : World) (cp : Nat) (hc : Conv2 t w a b cp w1) (hne : (t.toList == []) = false) (a0 : 58 ≤ a) (a1 : 97 ≤ lo a) (a2 : lo a ≤ 102) (av : (a == 95) = false) (b0 : 58 ≤ b) (b1 : lo b < 97) (bv : (b == 95) = false) :
    Calls Tryz.prog 121 #[.string t, .int .i64 16, .int .i64 8] w (PuPost 0 (.iface 158 (.int .i64 2)) w) := by
  obtain ⟨hcv, hc0, hc1, hb⟩ := hc
  have HB := Lib.hid hb
  clear hb
  go_enter Tryz.func121, Tryz.ntmps121
  go_wp2_with fail
  refine wp_loop_rounds 3 ?_
  rw [rounds_succ]
  go_wp2_with (go_at_call 133; refine (lower_any _ _).mono ?_; rintro e w' ⟨rfl, rfl⟩)
  rw [rounds_succ]
  go_wp2_with (go_at_call 133; refine (lower_any _ _).mono ?_; rintro e w' ⟨rfl, rfl⟩)
  go_ret2
  exact ⟨rfl, HB.out⟩
set_option maxRecDepth 100000 in
theorem pu_LO (t : ByteArray) (a b : Int) (w w1 : World) (cp : Nat) (hc : Conv2 t w a b cp w1) (hne : (t.toList == []) = false) (a0 : 58 ≤ a) (a1 : 97 ≤ lo a) (a2 : lo a ≤ 102) (av : (a == 95) = false) (b0 : 58 ≤ b) (b1 : 122 < lo b) (bv : (b == 95) = false) :
    Calls Tryz.prog 121 #[.string t, .int .i64 16, .int .i64 8] w (PuPost 0 (.iface 158 (.int .i64 2)) w) := by
  obtain ⟨hcv, hc0, hc1, hb⟩ := hc
  have HB := Lib.hid hb
  clear hb
  go_enter Tryz.func121, Tryz.ntmps121
  go_wp2_with fail
  refine wp_loop_rounds 3 ?_
  rw [rounds_succ]
  go_wp2_with (go_at_call 133; refine (lower_any _ _).mono ?_; rintro e w' ⟨rfl, rfl⟩)
  rw [rounds_succ]
  go_wp2_with (go_at_call 133; refine (lower_any _ _).mono ?_; rintro e w' ⟨rfl, rfl⟩)
  go_ret2
  exact ⟨rfl, HB.out⟩
set_option maxRecDepth 100000 in
theorem pu_LU (t : ByteArray) (a b : Int) (w w1 : World) (cp : Nat) (hc : Conv2 t w a b cp w1) (hne : (t.toList == []) = false) (a0 : 58 ≤ a) (a1 : 97 ≤ lo a) (a2 : lo a ≤ 102) (av : (a == 95) = false) (b0 : 58 ≤ b) (b1 : 122 < lo b) (bv : (b == 95) = true) :
    Calls Tryz.prog 121 #[.string t, .int .i64 16, .int .i64 8] w (PuPost 0 (.iface 158 (.int .i64 2)) w) := by
  obtain ⟨hcv, hc0, hc1, hb⟩ := hc
  have HB := Lib.hid hb
  clear hb
  go_enter Tryz.func121, Tryz.ntmps121
  go_wp2_with fail
  refine wp_loop_rounds 3 ?_
  rw [rounds_succ]
  go_wp2_with (go_at_call 133; refine (lower_any _ _).mono ?_; rintro e w' ⟨rfl, rfl⟩)
  rw [rounds_succ]
  go_wp2_with (go_at_call 133; refine (lower_any _ _).mono ?_; rintro e w' ⟨rfl, rfl⟩)
  go_ret2
  exact ⟨rfl, HB.out⟩
set_option maxRecDepth 100000 in
theorem pu_X (t : ByteArray) (a b : Int) (w w1 : World) (cp : Nat) (hc : Conv2 t w a b cp w1) (hne : (t.toList == []) = false) (a0 : 58 ≤ a) (a1 : 103 ≤ lo a) (a2 : lo a ≤ 122) (av : (a == 95) = false)  :
    Calls Tryz.prog 121 #[.string t, .int .i64 16, .int .i64 8] w (PuPost 0 (.iface 158 (.int .i64 2)) w) := by
  obtain ⟨hcv, hc0, hc1, hb⟩ := hc
  have HB := Lib.hid hb
  clear hb
  go_enter Tryz.func121, Tryz.ntmps121
  go_wp2_with fail
  refine wp_loop_rounds 3 ?_
  rw [rounds_succ]
  go_wp2_with (go_at_call 133; refine (lower_any _ _).mono ?_; rintro e w' ⟨rfl, rfl⟩)
  go_ret2
  exact ⟨rfl, HB.out⟩
set_option maxRecDepth 100000 in
theorem pu_M (t : ByteArray) (a b : Int) (w w1 : World) (cp : Nat) (hc : Conv2 t w a b cp w1) (hne : (t.toList == []) = false) (a0 : a < 48) (a1 : lo a < 97)  :
    Calls Tryz.prog 121 #[.string t, .int .i64 16, .int .i64 8] w (PuPost 0 (.iface 158 (.int .i64 2)) w) := by
  obtain ⟨hcv, hc0, hc1, hb⟩ := hc
  have HB := Lib.hid hb
  clear hb
  go_enter Tryz.func121, Tryz.ntmps121
  go_wp2_with fail
  refine wp_loop_rounds 3 ?_
  rw [rounds_succ]
  go_wp2_with (go_at_call 133; refine (lower_any _ _).mono ?_; rintro e w' ⟨rfl, rfl⟩)
  go_ret2
  exact ⟨rfl, HB.out⟩
set_option maxRecDepth 100000 in
theorem pu_N (t : ByteArray) (a b : Int) (w w1 : World) (cp : Nat) (hc : Conv2 t w a b cp w1) (hne : (t.toList == []) = false) (a0 : 58 ≤ a) (a1 : lo a < 97) (av : (a == 95) = false)  :
    Calls Tryz.prog 121 #[.string t, .int .i64 16, .int .i64 8] w (PuPost 0 (.iface 158 (.int .i64 2)) w) := by
  obtain ⟨hcv, hc0, hc1, hb⟩ := hc
  have HB := Lib.hid hb
  clear hb
  go_enter Tryz.func121, Tryz.ntmps121
  go_wp2_with fail
  refine wp_loop_rounds 3 ?_
  rw [rounds_succ]
  go_wp2_with (go_at_call 133; refine (lower_any _ _).mono ?_; rintro e w' ⟨rfl, rfl⟩)
  go_ret2
  exact ⟨rfl, HB.out⟩
set_option maxRecDepth 100000 in
theorem pu_O (t : ByteArray) (a b : Int) (w w1 : World) (cp : Nat) (hc : Conv2 t w a b cp w1) (hne : (t.toList == []) = false) (a0 : 58 ≤ a) (a1 : 122 < lo a) (av : (a == 95) = false)  :
    Calls Tryz.prog 121 #[.string t, .int .i64 16, .int .i64 8] w (PuPost 0 (.iface 158 (.int .i64 2)) w) := by
  obtain ⟨hcv, hc0, hc1, hb⟩ := hc
  have HB := Lib.hid hb
  clear hb
  go_enter Tryz.func121, Tryz.ntmps121
  go_wp2_with fail
  refine wp_loop_rounds 3 ?_
  rw [rounds_succ]
  go_wp2_with (go_at_call 133; refine (lower_any _ _).mono ?_; rintro e w' ⟨rfl, rfl⟩)
  go_ret2
  exact ⟨rfl, HB.out⟩
set_option maxRecDepth 100000 in
theorem pu_U (t : ByteArray) (a b : Int) (w w1 : World) (cp : Nat) (hc : Conv2 t w a b cp w1) (hne : (t.toList == []) = false) (a0 : 58 ≤ a) (a1 : 122 < lo a) (av : (a == 95) = true)  :
    Calls Tryz.prog 121 #[.string t, .int .i64 16, .int .i64 8] w (PuPost 0 (.iface 158 (.int .i64 2)) w) := by
  obtain ⟨hcv, hc0, hc1, hb⟩ := hc
  have HB := Lib.hid hb
  clear hb
  go_enter Tryz.func121, Tryz.ntmps121
  go_wp2_with fail
  refine wp_loop_rounds 3 ?_
  rw [rounds_succ]
  go_wp2_with (go_at_call 133; refine (lower_any _ _).mono ?_; rintro e w' ⟨rfl, rfl⟩)
  go_ret2
  exact ⟨rfl, HB.out⟩
theorem lo_facts (c : Int) (h0 : 0 ≤ c) (h1 : c < 256) : (c < 48 → lo c < 97) ∧ (97 ≤ c → c ≤ 122 → lo c = c) ∧ (lo c ≤ 122 → (c == 95) = false) := by
  have h : ∀ x : Fin 256, ((x : Nat) < 48 → lo ((x : Nat) : Int) < 97) ∧ (97 ≤ (x : Nat) → (x : Nat) ≤ 122 → lo ((x : Nat) : Int) = ((x : Nat) : Int)) ∧ (lo ((x : Nat) : Int) ≤ 122 → (((x : Nat) : Int) == 95) = false) := by decide +kernel
  have := h ⟨c.toNat, by omega⟩
  simp only [Int.toNat_of_nonneg h0] at this
  exact ⟨fun a => this.1 (by omega), fun a b => this.2.1 (by omega) (by omega), this.2.2⟩
/-- a hexadecimal digit in lower case, and what it is worth -/
def LowHex (c d : Int) : Prop := (48 ≤ c ∧ c ≤ 57 ∧ d = c - 48) ∨ (97 ≤ c ∧ c ≤ 102 ∧ d = c - 87)
def PuAny (a b : Int) (w : World) (e : Ending) (w' : World) : Prop :=
  ∃ (v : Int) (er : Value), e = .returned (.tuple #[.int .u64 v, er]) ∧ Below w.heap.size w w' ∧ (er = .nilIface ∨ er = .iface 158 (.int .i64 2)) ∧ ∀ x y, LowHex a x → LowHex b y → er = .nilIface ∧ v = x * 16 + y
theorem pu_any (t : ByteArray) (a b : Int) (w w1 : World) (cp : Nat) (hc : Conv2 t w a b cp w1) (hne : (t.toList == []) = false) (ha0 : 0 ≤ a) (ha1 : a < 256) (hb0 : 0 ≤ b) (hb1 : b < 256) :
    Calls Tryz.prog 121 #[.string t, .int .i64 16, .int .i64 8] w (PuAny a b w) := by
  have fa := lo_facts a ha0 ha1
  have fb := lo_facts b hb0 hb1
  have bad : ∀ {e : Ending} {w' : World}, PuPost 0 (.iface 158 (.int .i64 2)) w e w' → (∀ x y, LowHex a x → ¬ LowHex b y) → PuAny a b w e w' :=
    fun h hn => ⟨_, _, h.1, h.2, .inr rfl, fun x y hx hy => absurd hy (hn x y hx)⟩
  have good : ∀ {e : Ending} {w' : World} {v : Int}, PuPost v .nilIface w e w' → (∀ x y, LowHex a x → LowHex b y → v = x * 16 + y) → PuAny a b w e w' :=
    fun h hn => ⟨_, _, h.1, h.2, .inl rfl, fun x y hx hy => ⟨rfl, hn x y hx hy⟩⟩
  have nb : (b < 48 ∨ 58 ≤ b) → (lo b < 97 ∨ 102 < lo b) → ∀ y, ¬ LowHex b y := by
    intro h1 h2 y hy
    rcases hy with ⟨_, _, _⟩ | ⟨h3, h4, _⟩
    · omega
    · have := fb.2.1 h3 (by omega)
      omega
  have na : (a < 48 ∨ 58 ≤ a) → (lo a < 97 ∨ 102 < lo a) → ∀ x, ¬ LowHex a x := by
    intro h1 h2 y hy
    rcases hy with ⟨_, _, _⟩ | ⟨h3, h4, _⟩
    · omega
    · have := fa.2.1 h3 (by omega)
      omega
  have va : 48 ≤ a → a ≤ 57 → ∀ x, LowHex a x → x = a - 48 := by
    intro h1 h2 x hx
    rcases hx with ⟨_, _, _⟩ | ⟨_, _, _⟩ <;> omega
  have vb : 48 ≤ b → b ≤ 57 → ∀ x, LowHex b x → x = b - 48 := by
    intro h1 h2 x hx
    rcases hx with ⟨_, _, _⟩ | ⟨_, _, _⟩ <;> omega
  have ua : 58 ≤ a → ∀ x, LowHex a x → x = lo a - 97 + 10 := by
    intro h1 x hx
    rcases hx with ⟨_, _, _⟩ | ⟨h3, h4, _⟩
    · omega
    · have := fa.2.1 h3 (by omega)
      omega
  have ub : 58 ≤ b → ∀ x, LowHex b x → x = lo b - 97 + 10 := by
    intro h1 x hx
    rcases hx with ⟨_, _, _⟩ | ⟨h3, h4, _⟩
    · omega
    · have := fb.2.1 h3 (by omega)
      omega
  by_cases a0 : a < 48
  · exact (pu_M t a b w w1 cp hc hne a0 (fa.1 a0)).mono fun _ _ h => bad h fun x y hx => absurd hx (na (.inl a0) (.inl (fa.1 a0)) x)
  · by_cases a1 : a ≤ 57
    · by_cases b0 : b < 48
      · exact (pu_DM t a b w w1 cp hc hne (by omega) a1 b0 (fb.1 b0)).mono fun _ _ h => bad h fun x y hx => nb (.inl b0) (.inl (fb.1 b0)) y
      · by_cases b1 : b ≤ 57
        · exact (pu_DD t a b w w1 cp hc hne (by omega) a1 (by omega) b1).mono fun _ _ h => good h fun x y hx hy => by rw [va (by omega) a1 x hx, vb (by omega) b1 y hy]
        · by_cases b2 : lo b < 97
          · exact (pu_DN t a b w w1 cp hc hne (by omega) a1 (by omega) b2 (fb.2.2 (by omega))).mono fun _ _ h => bad h fun x y hx => nb (.inr (by omega)) (.inl b2) y
          · by_cases b3 : lo b ≤ 102
            · exact (pu_DL t a b w w1 cp hc hne (by omega) a1 (by omega) (by omega) b3 (fb.2.2 (by omega))).mono fun _ _ h => good h fun x y hx hy => by rw [va (by omega) a1 x hx, ub (by omega) y hy]
            · by_cases b4 : lo b ≤ 122
              · exact (pu_DX t a b w w1 cp hc hne (by omega) a1 (by omega) (by omega) b4 (fb.2.2 (by omega))).mono fun _ _ h => bad h fun x y hx => nb (.inr (by omega)) (.inr (by omega)) y
              · cases hu : (b == 95)
                · exact (pu_DO t a b w w1 cp hc hne (by omega) a1 (by omega) (by omega) hu).mono fun _ _ h => bad h fun x y hx => nb (.inr (by omega)) (.inr (by omega)) y
                · exact (pu_DU t a b w w1 cp hc hne (by omega) a1 (by omega) (by omega) hu).mono fun _ _ h => bad h fun x y hx => nb (.inr (by omega)) (.inr (by omega)) y
    · by_cases a2 : lo a < 97
      · exact (pu_N t a b w w1 cp hc hne (by omega) a2 (fa.2.2 (by omega))).mono fun _ _ h => bad h fun x y hx => absurd hx (na (.inr (by omega)) (.inl a2) x)
      · by_cases a3 : lo a ≤ 102
        · by_cases b0 : b < 48
          · exact (pu_LM t a b w w1 cp hc hne (by omega) (by omega) a3 (fa.2.2 (by omega)) b0 (fb.1 b0)).mono fun _ _ h => bad h fun x y hx => nb (.inl b0) (.inl (fb.1 b0)) y
          · by_cases b1 : b ≤ 57
            · exact (pu_LD t a b w w1 cp hc hne (by omega) (by omega) a3 (fa.2.2 (by omega)) (by omega) b1).mono fun _ _ h => good h fun x y hx hy => by rw [ua (by omega) x hx, vb (by omega) b1 y hy]
            · by_cases b2 : lo b < 97
              · exact (pu_LN t a b w w1 cp hc hne (by omega) (by omega) a3 (fa.2.2 (by omega)) (by omega) b2 (fb.2.2 (by omega))).mono fun _ _ h => bad h fun x y hx => nb (.inr (by omega)) (.inl b2) y
              · by_cases b3 : lo b ≤ 102
                · exact (pu_LL t a b w w1 cp hc hne (by omega) (by omega) a3 (fa.2.2 (by omega)) (by omega) (by omega) b3 (fb.2.2 (by omega))).mono fun _ _ h => good h fun x y hx hy => by rw [ua (by omega) x hx, ub (by omega) y hy]
                · by_cases b4 : lo b ≤ 122
                  · exact (pu_LX t a b w w1 cp hc hne (by omega) (by omega) a3 (fa.2.2 (by omega)) (by omega) (by omega) b4 (fb.2.2 (by omega))).mono fun _ _ h => bad h fun x y hx => nb (.inr (by omega)) (.inr (by omega)) y
                  · cases hu : (b == 95)
                    · exact (pu_LO t a b w w1 cp hc hne (by omega) (by omega) a3 (fa.2.2 (by omega)) (by omega) (by omega) hu).mono fun _ _ h => bad h fun x y hx => nb (.inr (by omega)) (.inr (by omega)) y
                    · exact (pu_LU t a b w w1 cp hc hne (by omega) (by omega) a3 (fa.2.2 (by omega)) (by omega) (by omega) hu).mono fun _ _ h => bad h fun x y hx => nb (.inr (by omega)) (.inr (by omega)) y
        · by_cases a4 : lo a ≤ 122
          · exact (pu_X t a b w w1 cp hc hne (by omega) (by omega) a4 (fa.2.2 (by omega))).mono fun _ _ h => bad h fun x y hx => absurd hx (na (.inr (by omega)) (.inr (by omega)) x)
          · cases hu : (a == 95)
            · exact (pu_O t a b w w1 cp hc hne (by omega) (by omega) hu).mono fun _ _ h => bad h fun x y hx => absurd hx (na (.inr (by omega)) (.inr (by omega)) x)
            · exact (pu_U t a b w w1 cp hc hne (by omega) (by omega) hu).mono fun _ _ h => bad h fun x y hx => absurd hx (na (.inr (by omega)) (.inr (by omega)) x)
end Go.Proofs.YtkficmbkoinjjaaGreatDoor.V
