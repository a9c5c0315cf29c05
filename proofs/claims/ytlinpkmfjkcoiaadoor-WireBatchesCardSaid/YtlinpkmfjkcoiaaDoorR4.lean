/- The walk of the reader's number. -/
import Derived.Test.YtlinpkmfjkcoiaaDoorR3
import Derived.LoopTactic
namespace Go.Proofs.YtlinpkmfjkcoiaaDoor
open Go Go.RowKit
set_option maxHeartbeats 4000000
set_option linter.unusedVariables false
set_option linter.unusedSimpArgs false
theorem or_shl (z : Nat) (x : Int) (i : Nat) (hz : z < 18446744073709551616) (h0 : 0 ≤ x) : bits .or .u64 (z : Int) (IntKind.u64.wrap (x * 2 ^ (i * 7))) = ((orN z x i : Nat) : Int) := by
  have h2 : (2 : Int) ^ (i * 7) = ((128 ^ i : Nat) : Int) := by
    rw [Nat.mul_comm, show (128 : Nat) = 2 ^ 7 from rfl, ← Nat.pow_mul]
    simp
  have e : IntKind.u64.wrap (x * 2 ^ (i * 7)) = ((shlN x i : Nat) : Int) := by
    rw [h2, IntKind.wrap_u64]
    obtain ⟨n, rfl⟩ : ∃ n : Nat, x = n := ⟨x.toNat, by omega⟩
    unfold shlN
    rw [Int.toNat_natCast, ← Int.natCast_mul]
    rfl
  rw [e]
  exact or_u64 z x i hz
attribute [local go_sem ↓] or_shl
theorem After.trans {w w1 w2 : World} {R : Nat} {sv : Value} {n a1 a2 : Nat} {f1 f2 : Int} (h : After w w1 R sv n a1 f1) (k : After w1 w2 R sv n a2 f2) : After w w2 R sv n a2 f2 := ⟨Lib.grownBy_trans h.g k.g, k.r, k.le⟩
theorem After.refl {w : World} {R : Nat} {sv : Value} {n a : Nat} {f : Int} (h : Rdr w R sv a f) (ha : a ≤ n) : After w w R sv n a f := ⟨World.grownBy.refl w _, h, ha⟩
/-- demand: the fault behind it -/
def Dem (w : World) (R : Nat) (sv : Value) (n a : Nat) (f : Int) (ok : Bool) (E : Int) (e : Ending) (w' : World) : Prop := e = .returned (.tuple #[]) ∧ ∃ f3, After w w' R sv n a f3 ∧ (f ≠ 0 → f3 = f) ∧ (ok = true → f3 = f) ∧ (f = 0 → ok = false → f3 = E)
theorem demand_dem (R : Nat) (sv : Value) (n a : Nat) (f : Int) (ok : Bool) (E : Int) (w : World) (hr : Rdr w R sv a f) (ha : a ≤ n) : Calls Tryd.prog 53 #[.pointer (some ⟨R, 0, none⟩), .bool ok, .int .i64 E] w (Dem w R sv n a f ok E) := by
  refine (demand_any R sv a f ok E w hr).mono ?_
  rintro e w' ⟨rfl, rfl⟩
  refine ⟨rfl, ?_⟩
  by_cases h : f = 0 ∧ ok = false
  · rw [if_pos h]
    exact ⟨E, ⟨Lib.grownBy_setB (World.grownBy.refl w _) 2 _, hr.bad E, ha⟩, (fun hf => absurd h.1 hf), (fun hk => by rw [h.2] at hk; cases hk), (fun _ _ => rfl)⟩
  · rw [if_neg h]
    exact ⟨f, After.refl hr ha, fun _ => rfl, fun _ => rfl, fun h0 hk => absurd ⟨h0, hk⟩ h⟩
/-- a number of 64 bits, and what came of it -/
def Num (w : World) (R : Nat) (sv : Value) (l : List UInt8) (a : Nat) (f : Int) (e : Ending) (w' : World) : Prop :=
  ∃ (n : Int) (a' : Nat) (f' : Int), e = .returned (.int .i64 n) ∧ I64 n ∧ After w w' R sv l.length a' f' ∧ Came a a' f f' (num (l.drop a)) (· = n)
theorem NumEnd.num {l : List UInt8} {a : Nat} {f : Int} {z a' : Nat} {f' : Int} (h : NumEnd l a f z a' f') : Came a a' f f' (num (l.drop a)) (· = zag z) := by
  rcases h with h | ⟨h0, h⟩
  · exact .inl h
  · refine .inr ⟨h0, ?_⟩
    unfold YtlinpkmfjkcoiaaDoor.num
    cases hr : rdz 0 (l.drop a) with
    | bad E => rw [hr] at h; exact h
    | ok z' k =>
      rw [hr] at h
      obtain ⟨h1, h2, h3⟩ := h
      exact ⟨h1, h2, by rw [h3]⟩
set_option maxRecDepth 100000 in
theorem num_any (R : Nat) (p : Option Addr) (c : Nat) (l : List UInt8) (a : Nat) (f : Int) (w : World) (hr : Rdr w R (.slice p l.length c) a f) (hb : Byt w R p l) (ha : a ≤ l.length) (hc : l.length ≤ c) (hm : c ≤ maxLen) :
    Calls Tryd.prog 46 #[.pointer (some ⟨R, 0, none⟩)] w (Num w R (.slice p l.length c) l a f) := by
  have HB := Lib.hid hb
  have HC := Lib.hid hc
  have HM := Lib.hid hm
  have HAF := Lib.hid (After.refl hr ha)
  obtain ⟨sv, hsv⟩ : ∃ sv, sv = Value.slice p l.length c := ⟨_, rfl⟩
  rw [← hsv] at HAF hr ⊢
  have HSV := Lib.hid hsv
  have HONE : Hid (∀ wx a' f', After w wx R sv l.length a' f' → Calls Tryd.prog 74 #[.pointer (some ⟨R, 0, none⟩)] wx (One wx R sv l a' f')) := by
    intro wx a' f' h
    have h1 := h.r
    rw [HSV.out] at h1 ⊢
    exact one_any R p c l a' f' wx h1 (HB.out.grown h.g) h.le HC.out HM.out
  clear hb hc hm hr hsv
  go_enter Tryd.func46, Tryd.ntmps46
  go_wp2
  go_loopw [3, 6] (fun z i wr => ∃ (k zz a' : Nat) (f' : Int), i = .int .i64 k ∧ z = .int .u64 zz ∧ k ≤ 10 ∧ zz < 18446744073709551616 ∧ After w wr R sv l.length a' f' ∧ NumSt l a f k zz a' f') (fun _ i _ => 10 - (intOf i).toNat)
  case atStart => exact ⟨0, 0, a, f, rfl, rfl, by omega, by omega, HAF.out, NumSt.start l a f⟩
  case round =>
    obtain ⟨k, z, a', f', rfl, rfl, hk, hz, haf, hst⟩ := hrel
    have HA := Lib.hid haf
    have HS := Lib.hid hst
    clear haf hst
    by_cases h10 : k < 10
    · go_wp2_with fail
      refine (HONE.out wr a' f' HA.out).mono ?_
      rintro e w1 ⟨x, a1, f1, rfl, haf1, hca1, hno1⟩
      have HA1 := Lib.hid (HA.out.trans haf1)
      have HC1 := Lib.hid hca1
      have HN1 := Lib.hid hno1
      clear haf1 hca1 hno1
      have hx8 : (x.toNat : Int) < 256 := by have := x.toNat_lt; omega
      have hq0 : (0 : Int) ≤ (x.toNat : Int) % 128 := by omega
      have hz2 := orN_lt hz ((x.toNat : Int) % 128) k
      by_cases h9 : k < 9
      · have d9 : decide ((k : Int) < 9) = true := by simp; omega
        go_wp2_with fail
        refine (demand_dem R sv l.length a1 f1 true 31 w1 HA1.out.r HA1.out.le).mono ?_
        rintro e w2 ⟨rfl, f2, haf2, _, hd2, _⟩
        obtain rfl := hd2 rfl
        have HA2 := Lib.hid (HA1.out.trans haf2)
        clear haf2 hd2
        by_cases h128 : x.toNat < 128
        · have d1 : decide ((x.toNat : Int) < 128) = true := by simp; omega
          have HE : Hid ((x.toNat : Int) % 128 = (x.toNat : Int)) := by show _ = _; omega
          by_cases h0 : x.toNat = 0
          · have d2 : ((x.toNat : Int) != 0) = false := by simp; omega
            have H0 := Lib.hid h0
            obtain ⟨kb, hkb⟩ : ∃ kb, kb = ((k : Int) == 0) := ⟨_, rfl⟩
            clear h0
            go_wp2_with fail
            rw [← hkb]
            have HK := Lib.hid hkb
            clear hkb
            refine (demand_dem R sv l.length a1 f2 kb 31 w2 HA2.out.r HA2.out.le).mono ?_
            rintro e w3 ⟨rfl, f3, haf3, hd3, hd4, hd5⟩
            have HA3 := Lib.hid (HA2.out.trans haf3)
            have HEND : Hid (NumEnd l a f (orN z ((x.toNat : Int) % 128) k) a1 f3) := by
              show NumEnd _ _ _ _ _ _
              rcases Int.decEq f2 0 with hf | hf
              · rw [hd3 hf]
                exact (HS.out.bad HC1.out hf 0 0 a1).over hf _ _
              · cases hb : kb
                · rw [hd5 hf hb]
                  have := HK.out
                  rw [hb] at this
                  exact HS.out.zero HC1.out hf H0.out (by intro h; rw [h] at this; simp at this) _ _
                · rw [hd4 hb, HE.out, hf]
                  have := HK.out
                  rw [hb] at this
                  exact HS.out.last HC1.out hf (by omega) h128 (.inr (by simpa using this.symm))
            clear haf3 hd3 hd4 hd5
            go_wp2_with (go_at_call 75; refine (signed_any _ hz2 _).mono ?_; rintro e w' ⟨rfl, hw'⟩; obtain rfl := hw'.symm)
            go_ret
            exact ⟨_, a1, f3, rfl, zag_in hz2, HA3.out, HEND.out.num⟩
          · have d2 : ((x.toNat : Int) != 0) = true := by simp; omega
            have H0 := Lib.hid h0
            clear h0
            go_wp2_with fail
            refine (demand_dem R sv l.length a1 f2 true 31 w2 HA2.out.r HA2.out.le).mono ?_
            rintro e w3 ⟨rfl, f3, haf3, hd3, hd4, hd5⟩
            obtain rfl := hd4 rfl
            have HA3 := Lib.hid (HA2.out.trans haf3)
            have HEND : Hid (NumEnd l a f (orN z ((x.toNat : Int) % 128) k) a1 f3) := by
              show NumEnd _ _ _ _ _ _
              rcases Int.decEq f3 0 with hf | hf
              · exact absurd (HN1.out hf) H0.out
              · rw [HE.out, hf]
                exact HS.out.last HC1.out hf (by omega) h128 (.inl H0.out)
            clear haf3 hd3 hd4 hd5
            go_wp2_with (go_at_call 75; refine (signed_any _ hz2 _).mono ?_; rintro e w' ⟨rfl, hw'⟩; obtain rfl := hw'.symm)
            go_ret
            exact ⟨_, a1, f3, rfl, zag_in hz2, HA3.out, HEND.out.num⟩
        · have d1 : decide ((x.toNat : Int) < 128) = false := by simp; omega
          have HST : Hid (NumSt l a f (k + 1) (orN z ((x.toNat : Int) % 128) k) a1 f2) := by
            refine HS.out.more HC1.out ?_ h9 (by omega)
            rcases Int.decEq f2 0 with hf | hf
            · have := HN1.out hf; omega
            · exact hf
          go_wp2
          go_roundw
          case rel => exact ⟨k + 1, _, a1, f2, by go_num, rfl, by omega, hz2, HA2.out, HST.out⟩
          case measure => simp [intOf]; omega
      · have hk9 : k = 9 := by omega
        have HK9 := Lib.hid hk9
        have d9 : decide ((k : Int) < 9) = false := by simp; omega
        obtain ⟨b1, hb1⟩ : ∃ b1, b1 = decide ((x.toNat : Int) ≤ 1) := ⟨_, rfl⟩
        clear hk9
        go_wp2_with fail
        rw [← hb1]
        have HBB := Lib.hid hb1
        clear hb1
        refine (demand_dem R sv l.length a1 f1 b1 31 w1 HA1.out.r HA1.out.le).mono ?_
        rintro e w2 ⟨rfl, f2, haf2, hd1, hd2, hd3⟩
        have HA2 := Lib.hid (HA1.out.trans haf2)
        have HD1 := Lib.hid hd1
        have HD2 := Lib.hid hd2
        have HD3 := Lib.hid hd3
        clear haf2 hd1 hd2 hd3
        have HGR : Hid (f1 = 0 → 1 < x.toNat → f2 = 31) := fun hf hx => HD3.out hf (by rw [HBB.out]; simp; omega)
        have HSM : Hid (x.toNat ≤ 1 → f2 = f1) := fun hx => HD2.out (by rw [HBB.out]; simp; omega)
        by_cases h128 : x.toNat < 128
        · have d1 : decide ((x.toNat : Int) < 128) = true := by simp; omega
          have HE : Hid ((x.toNat : Int) % 128 = (x.toNat : Int)) := by show _ = _; omega
          obtain ⟨b2, hb2⟩ : ∃ b2, b2 = ((x.toNat : Int) != 0) := ⟨_, rfl⟩
          have dk : ((k : Int) == 0) = false := by simp; omega
          by_cases h0 : x.toNat = 0
          · have d2 : ((x.toNat : Int) != 0) = false := by simp; omega
            have H0 := Lib.hid h0
            clear h0
            go_wp2_with fail
            refine (demand_dem R sv l.length a1 f2 false 31 w2 HA2.out.r HA2.out.le).mono ?_
            rintro e w3 ⟨rfl, f3, haf3, hd3, hd4, hd5⟩
            have HA3 := Lib.hid (HA2.out.trans haf3)
            have HEND : Hid (NumEnd l a f (orN z ((x.toNat : Int) % 128) k) a1 f3) := by
              show NumEnd _ _ _ _ _ _
              have h12 := HSM.out (by have := H0.out; omega)
              rcases Int.decEq f1 0 with hf | hf
              · rw [hd3 (by rw [h12]; exact hf), h12]
                exact (HS.out.bad HC1.out hf 0 0 a1).over hf _ _
              · rw [hd5 (by rw [h12]; exact hf) rfl]
                exact HS.out.zero HC1.out hf H0.out (by have := HK9.out; omega) _ _
            clear haf3 hd3 hd4 hd5
            go_wp2_with (go_at_call 75; refine (signed_any _ hz2 _).mono ?_; rintro e w' ⟨rfl, hw'⟩; obtain rfl := hw'.symm)
            go_ret
            exact ⟨_, a1, f3, rfl, zag_in hz2, HA3.out, HEND.out.num⟩
          · have d2 : ((x.toNat : Int) != 0) = true := by simp; omega
            have H0 := Lib.hid h0
            clear h0
            go_wp2_with fail
            refine (demand_dem R sv l.length a1 f2 true 31 w2 HA2.out.r HA2.out.le).mono ?_
            rintro e w3 ⟨rfl, f3, haf3, hd3, hd4, hd5⟩
            obtain rfl := hd4 rfl
            have HA3 := Lib.hid (HA2.out.trans haf3)
            have HEND : Hid (NumEnd l a f (orN z ((x.toNat : Int) % 128) k) a1 f3) := by
              show NumEnd _ _ _ _ _ _
              have hf1 : f1 = 0 := by
                rcases Int.decEq f1 0 with hf | hf
                · exact absurd (HN1.out hf) H0.out
                · exact hf
              by_cases hx1 : x.toNat ≤ 1
              · have h12 := HSM.out hx1
                rw [HE.out, h12, hf1]
                exact HS.out.last HC1.out hf1 (fun _ => hx1) h128 (.inl H0.out)
              · rw [HGR.out hf1 (by omega)]
                exact (HS.out.great HC1.out hf1 HK9.out (by omega) 0 0 a1).over (by decide) _ _
            clear haf3 hd3 hd4 hd5
            go_wp2_with (go_at_call 75; refine (signed_any _ hz2 _).mono ?_; rintro e w' ⟨rfl, hw'⟩; obtain rfl := hw'.symm)
            go_ret
            exact ⟨_, a1, f3, rfl, zag_in hz2, HA3.out, HEND.out.num⟩
        · have d1 : decide ((x.toNat : Int) < 128) = false := by simp; omega
          have HST : Hid (NumSt l a f (k + 1) (orN z ((x.toNat : Int) % 128) k) a1 f2) := by
            have hf1 : f1 = 0 := by
              rcases Int.decEq f1 0 with hf | hf
              · have := HN1.out hf; omega
              · exact hf
            show NumSt _ _ _ _ _ _ _
            rw [HGR.out hf1 (by omega)]
            exact HS.out.great HC1.out hf1 HK9.out (by omega) _ _ _
          go_wp2
          go_roundw
          case rel => exact ⟨k + 1, _, a1, f2, by go_num, rfl, by omega, hz2, HA2.out, HST.out⟩
          case measure => simp [intOf]; omega
    · have HK : Hid (k = 10) := by show _ = _; omega
      go_wp2_with (go_at_call 75; refine (signed_any _ hz _).mono ?_; rintro e w' ⟨rfl, hw'⟩; obtain rfl := hw'.symm)
      go_ret
      exact ⟨_, a', f', rfl, zag_in hz, HA.out, (HS.out.left HK.out z).num⟩
end Go.Proofs.YtlinpkmfjkcoiaaDoor
