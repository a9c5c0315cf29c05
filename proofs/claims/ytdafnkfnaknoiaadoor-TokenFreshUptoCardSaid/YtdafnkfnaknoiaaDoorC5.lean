/- The scanner of package token: state. -/
import Derived.Test.YtdafnkfnaknoiaaDoorC4
import Derived.Lib.IndexBytes
namespace Go.Proofs.YtdafnkfnaknoiaaDoor
open Go Go.RowKit
set_option maxHeartbeats 1000000
set_option linter.unusedVariables false
set_option linter.unusedSimpArgs false
/-- what the scanner stands ahead of -/
def sttL : List UInt8 → Int
  | [] => 0
  | c :: t => if blankB c then 1 else if c = 45 ∧ t.head? = some 45 then 2 else if c = 34 then 5 else if dgB c then 4 else if 0 < wl (c :: t) then 3 else if signL (c :: t) = 0 then 7 else 6
abbrev blS : ByteArray := ⟨#[32, 9, 10, 13]⟩
set_option maxRecDepth 100000 in
theorem blank_index : ∀ c : Fin 256, decide (0 ≤ Lib.indexByte [32, 9, 10, 13] (UInt8.ofNat c.val)) = blankB (UInt8.ofNat c.val) := by decide
theorem blank_ix (c : UInt8) : decide (0 ≤ Lib.indexByte [32, 9, 10, 13] c) = blankB c := by
  have := blank_index ⟨c.toNat, c.toNat_lt⟩
  simpa using this
theorem index_b (c : UInt8) (w : World) : Calls Tryd.prog 45 #[.string blS, .int .u8 c.toNat] w fun e w' => (∃ z : Int, e = .returned (.int .i64 z) ∧ decide (0 ≤ z) = blankB c) ∧ w' = w := by
  refine (Tryd.strings_IndexByte blS c.toNat w).mono ?_
  rintro e w' ⟨rfl, hw⟩
  refine ⟨⟨_, rfl, ?_⟩, hw⟩
  have e1 : ((c.toNat : Int)).toNat.toUInt8 = c := by
    rw [Int.toNat_natCast]
    exact UInt8.toNat_inj.1 (by simp)
  rw [e1]
  exact blank_ix c
theorem pre_note (c : UInt8) (t : List UInt8) : Lib.hasPrefix (c :: t) [45, 45] = decide (c = 45 ∧ t.head? = some 45) := by
  cases t with
  | nil => simp [Lib.hasPrefix, List.isPrefixOf]
  | cons a t =>
    by_cases h1 : c = 45
    · subst h1
      by_cases h2 : a = 45
      · subst h2; simp [Lib.hasPrefix, List.isPrefixOf]
      · simp [Lib.hasPrefix, List.isPrefixOf, h2, Ne.symm h2]
    · simp [Lib.hasPrefix, List.isPrefixOf, h1, Ne.symm h1]
def StPost (z : Int) (w : World) (e : Ending) (w' : World) : Prop := e = .returned (.int .i64 z) ∧ Below w.heap.size w w'
set_option maxRecDepth 100000 in
theorem state_any (R : Nat) (T : ByteArray) (a : Nat) (f : Int) (w : World) (h : Rd w R T a f) (ha : a ≤ T.size) (hT : T.size ≤ 4096) :
    Calls Tryd.prog 30 #[.pointer (some ⟨R, 0, none⟩)] w (StPost (sttL (T.data.toList.drop a)) w) := by
  have hX := restS_list T a
  obtain ⟨l, hl⟩ : ∃ l, l = T.data.toList.drop a := ⟨_, rfl⟩
  rw [← hl] at hX ⊢
  have HRC : Hid (∀ wx, Rd wx R T a f → Calls Tryd.prog 36 #[.pointer (some ⟨R, 0, none⟩)] wx fun e w' => e = .returned (.string (restS T a)) ∧ ∃ n, w' = wx.drewN n) := fun wx hx => rest_any R T a f wx hx ha hT
  obtain ⟨X, hXe⟩ : ∃ X, X = restS T a := ⟨_, rfl⟩
  rw [← hXe] at hX HRC
  have HR := Lib.hid h
  clear h hl hXe ha hT
  have hs := size_of hX
  rcases l with _ | ⟨c, t⟩
  · have he : (X.toList == []) = true := eq_nil' hX
    clear hX hs
    go_enter Tryd.func30, Tryd.ntmps30
    go_wp2_with (go_at_call 36; refine (HRC.out _ HR.out).mono ?_; rintro e w1 ⟨rfl, k1, rfl⟩)
    go_ret
    exact ⟨rfl, below_drewN (Below.refl _ _) _⟩
  · have he : (X.toList == []) = false := eq_nil' hX
    have g0 : 0 < X.size := by rw [hs]; simp
    have e0 : X[0]'g0 = c := at_of hX rfl g0
    have E0 : Hid (((X[0]'g0).toNat : Int) = c.toNat) := by show _ = _; rw [e0]
    have HW : Hid (∀ wx, Calls Tryd.prog 48 #[.string X] wx fun e w' => e = .returned (.int .i64 (wl (c :: t))) ∧ Below wx.heap.size wx w') := fun wx => by
      have := wordLen_any X wx
      rw [hX] at this
      exact this
    have HS : Hid (∀ wx, Calls Tryd.prog 35 #[.string X] wx fun e w' => e = .returned (.int .i64 (signL (c :: t))) ∧ w' = wx) := fun wx => signLen_any X c t hX wx
    have HP : Hid (∀ wx, Calls Tryd.prog 46 #[.string X, .string ⟨#[45, 45]⟩] wx fun e w' => e = .returned (.bool (decide (c = 45 ∧ t.head? = some 45))) ∧ w' = wx) := fun wx => by
      have := Tryd.strings_HasPrefix X ⟨#[45, 45]⟩ wx
      rw [hX, show (⟨#[45, 45]⟩ : ByteArray).data.toList = [45, 45] from rfl, pre_note] at this
      exact this
    obtain ⟨n, hn⟩ : ∃ n : Nat, n = c.toNat := ⟨_, rfl⟩
    have hc := c.toNat_lt
    have F0 : ((X[0]'g0).toNat : Int) = n := by rw [e0, hn]
    have HI : Hid (∀ wx, Calls Tryd.prog 45 #[.string blS, .int .u8 n] wx fun e w' => (∃ z : Int, e = .returned (.int .i64 z) ∧ decide (0 ≤ z) = blankB c) ∧ w' = wx) := fun wx => by rw [hn]; exact index_b c wx
    have HD : Hid (∀ wx, Calls Tryd.prog 47 #[.int .i32 n] wx fun e w' => e = .returned (.bool (dgB c)) ∧ w' = wx) := fun wx => by rw [hn]; exact isDigit_any c.toNat wx
    rw [← hn] at hc
    obtain ⟨z, hz⟩ : ∃ z, z = sttL (c :: t) := ⟨_, rfl⟩
    rw [← hz]
    clear hX hs e0
    by_cases q1 : blankB c = true
    · have HZ : Hid (z = 1) := by show _ = _; rw [hz, sttL, if_pos q1]
      rw [q1] at HI
      clear hz hn
      go_enter Tryd.func30, Tryd.ntmps30
      go_wp2_with (first | (go_at_call 36; refine (HRC.out _ HR.out).mono ?_; rintro e w1 ⟨rfl, k1, rfl⟩) | (go_at_call 45; refine (HI.out _).mono ?_; rintro e w2 ⟨⟨z2, rfl, hz2⟩, rfl⟩))
      go_ret
      exact ⟨by rw [HZ.out]; rfl, below_drewN (Below.refl _ _) _⟩
    · have q1' : blankB c = false := by simpa using q1
      rw [q1'] at HI
      by_cases q2 : c = 45 ∧ t.head? = some 45
      · have HZ : Hid (z = 2) := by show _ = _; rw [hz, sttL, if_neg q1, if_pos q2]
        rw [decide_eq_true q2] at HP
        clear hz hn q1 q2 q1'
        go_enter Tryd.func30, Tryd.ntmps30
        go_wp2_with (first | (go_at_call 36; refine (HRC.out _ HR.out).mono ?_; rintro e w1 ⟨rfl, k1, rfl⟩) | (go_at_call 45; refine (HI.out _).mono ?_; rintro e w2 ⟨⟨z2, rfl, hz2⟩, rfl⟩) | (go_at_call 46; refine (HP.out _).mono ?_; rintro e w2 ⟨rfl, rfl⟩))
        go_ret
        exact ⟨by rw [HZ.out]; rfl, below_drewN (Below.refl _ _) _⟩
      · rw [decide_eq_false q2] at HP
        by_cases q3 : n = 34
        · have HZ : Hid (z = 5) := by show _ = _; rw [hz, sttL, if_neg q1, if_neg q2, if_pos (UInt8.toNat_inj.1 (by rw [← hn, q3]; rfl))]
          have F1 : (n : Int) = 34 := by omega
          rw [F1] at HI
          clear hz hn q1 q2 q1' q3 hc
          go_enter Tryd.func30, Tryd.ntmps30
          go_wp2_with (first | (go_at_call 36; refine (HRC.out _ HR.out).mono ?_; rintro e w1 ⟨rfl, k1, rfl⟩) | (go_at_call 45; refine (HI.out _).mono ?_; rintro e w2 ⟨⟨z2, rfl, hz2⟩, rfl⟩) | (go_at_call 46; refine (HP.out _).mono ?_; rintro e w2 ⟨rfl, rfl⟩))
          go_ret
          exact ⟨by rw [HZ.out]; rfl, below_drewN (Below.refl _ _) _⟩
        · have F1 : ((n : Int) == 34) = false := by simp; omega
          have q3' : ¬ c = 34 := by intro hh; rw [hh] at hn; simp at hn; omega
          have hcv : (n : Int) ≤ 255 := by omega
          cases q4 : dgB c
          · rw [q4] at HD
            by_cases q5 : 0 < wl (c :: t)
            · have HZ : Hid (z = 3) := by show _ = _; rw [hz, sttL, if_neg q1, if_neg q2, if_neg q3', if_neg (by rw [q4]; simp), if_pos q5]
              have F2 : decide ((0 : Int) < (wl (c :: t) : Int)) = true := by simp; omega
              have F3 : (0 : Int) < (wl (c :: t) : Int) := by omega
              obtain ⟨m, hm⟩ : ∃ m, m = wl (c :: t) := ⟨_, rfl⟩
              rw [← hm] at HW F2 F3
              clear hz hn q1 q2 q1' q3 q3' q4 q5 hm
              go_enter Tryd.func30, Tryd.ntmps30
              go_wp2_with (first | (go_at_call 36; refine (HRC.out _ HR.out).mono ?_; rintro e w1 ⟨rfl, k1, rfl⟩) | (go_at_call 45; refine (HI.out _).mono ?_; rintro e w2 ⟨⟨z2, rfl, hz2⟩, rfl⟩) | (go_at_call 46; refine (HP.out _).mono ?_; rintro e w2 ⟨rfl, rfl⟩) | (go_at_call 47; refine (HD.out _).mono ?_; rintro e w2 ⟨rfl, rfl⟩) | (go_at_call 48; refine (HW.out _).mono ?_; rintro e w2 ⟨rfl, hb2⟩; have HB2 := Lib.hid ((below_drewN (Below.refl w.heap.size w) _).trans hb2); clear hb2))
              go_ret
              exact ⟨by rw [HZ.out]; rfl, HB2.out⟩
            · have F2 : wl (c :: t) = 0 := by omega
              rw [F2] at HW
              by_cases q6 : signL (c :: t) = 0
              · have HZ : Hid (z = 7) := by show _ = _; rw [hz, sttL, if_neg q1, if_neg q2, if_neg q3', if_neg (by rw [q4]; simp), if_neg q5, if_pos q6]
                rw [q6] at HS
                clear hz hn q1 q2 q1' q3 q3' q4 q5 q6 F2
                go_enter Tryd.func30, Tryd.ntmps30
                go_wp2_with (first | (go_at_call 36; refine (HRC.out _ HR.out).mono ?_; rintro e w1 ⟨rfl, k1, rfl⟩) | (go_at_call 45; refine (HI.out _).mono ?_; rintro e w2 ⟨⟨z2, rfl, hz2⟩, rfl⟩) | (go_at_call 46; refine (HP.out _).mono ?_; rintro e w2 ⟨rfl, rfl⟩) | (go_at_call 47; refine (HD.out _).mono ?_; rintro e w2 ⟨rfl, rfl⟩) | (go_at_call 48; refine (HW.out _).mono ?_; rintro e w2 ⟨rfl, hb2⟩; have HB2 := Lib.hid ((below_drewN (Below.refl w.heap.size w) _).trans hb2); clear hb2) | (go_at_call 35; refine (HS.out _).mono ?_; rintro e w3 ⟨rfl, rfl⟩))
                go_ret
                exact ⟨by rw [HZ.out]; rfl, HB2.out⟩
              · have HZ : Hid (z = 6) := by show _ = _; rw [hz, sttL, if_neg q1, if_neg q2, if_neg q3', if_neg (by rw [q4]; simp), if_neg q5, if_neg q6]
                obtain ⟨m, hm⟩ : ∃ m, m = signL (c :: t) := ⟨_, rfl⟩
                rw [← hm] at HS q6
                have F3 : (0 : Int) < (m : Int) := by omega
                clear hz hn q1 q2 q1' q3 q3' q4 q5 q6 F2 hm
                go_enter Tryd.func30, Tryd.ntmps30
                go_wp2_with (first | (go_at_call 36; refine (HRC.out _ HR.out).mono ?_; rintro e w1 ⟨rfl, k1, rfl⟩) | (go_at_call 45; refine (HI.out _).mono ?_; rintro e w2 ⟨⟨z2, rfl, hz2⟩, rfl⟩) | (go_at_call 46; refine (HP.out _).mono ?_; rintro e w2 ⟨rfl, rfl⟩) | (go_at_call 47; refine (HD.out _).mono ?_; rintro e w2 ⟨rfl, rfl⟩) | (go_at_call 48; refine (HW.out _).mono ?_; rintro e w2 ⟨rfl, hb2⟩; have HB2 := Lib.hid ((below_drewN (Below.refl w.heap.size w) _).trans hb2); clear hb2) | (go_at_call 35; refine (HS.out _).mono ?_; rintro e w3 ⟨rfl, rfl⟩))
                go_ret
                exact ⟨by rw [HZ.out]; rfl, HB2.out⟩
          · have HZ : Hid (z = 4) := by show _ = _; rw [hz, sttL, if_neg q1, if_neg q2, if_neg q3', if_pos q4]
            rw [q4] at HD
            clear hz hn q1 q2 q1' q3 q3' q4
            go_enter Tryd.func30, Tryd.ntmps30
            go_wp2_with (first | (go_at_call 36; refine (HRC.out _ HR.out).mono ?_; rintro e w1 ⟨rfl, k1, rfl⟩) | (go_at_call 45; refine (HI.out _).mono ?_; rintro e w2 ⟨⟨z2, rfl, hz2⟩, rfl⟩) | (go_at_call 46; refine (HP.out _).mono ?_; rintro e w2 ⟨rfl, rfl⟩) | (go_at_call 47; refine (HD.out _).mono ?_; rintro e w2 ⟨rfl, rfl⟩))
            go_ret
            exact ⟨by rw [HZ.out]; rfl, below_drewN (Below.refl _ _) _⟩
end Go.Proofs.YtdafnkfnaknoiaaDoor
