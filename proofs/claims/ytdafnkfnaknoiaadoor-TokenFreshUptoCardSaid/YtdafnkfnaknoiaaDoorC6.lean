/- The scanner of package token: words and numbers. -/
import Derived.Test.YtdafnkfnaknoiaaDoorC5
import Derived.Test.YtdafnkfnaknoiaaDoorVR1
namespace Go.Proofs.YtdafnkfnaknoiaaDoor
open Go Go.RowKit
set_option maxHeartbeats 1000000
set_option linter.unusedVariables false
set_option linter.unusedSimpArgs false
theorem Aft.low {w w' : World} {R : Nat} {T : ByteArray} {a : Nat} {f : Int} (h : Aft w w' R T a f) (hr : R ≤ w.heap.size) : Below R w w' :=
  ⟨h.g.os, h.g.tape, h.g.output, h.g.size, fun i hi => h.g.block i (by omega) (by simp; omega)⟩
/-- a piece of so many bytes was taken, or the fault stands at its beginning -/
def Took (ok : Bool) (s : List UInt8) (n : Nat) (R : Nat) (T : ByteArray) (a : Nat) (w : World) (e : Ending) (w' : World) : Prop :=
  if ok = true then e = .returned (.string ⟨s.toArray⟩) ∧ Aft w w' R T (a + n) 0 else e = .returned (.string ⟨#[]⟩) ∧ Aft w w' R T a 51
theorem Aft.alloc {w w1 : World} {R : Nat} {T : ByteArray} {a1 : Nat} {f1 : Int} (h : Aft w w1 R T a1 f1) (o : Obj) : Aft w (w1.alloc o) R T a1 f1 := h.below ((Below.refl _ _).alloc (Nat.le_refl _) o)
theorem wordLen_rest (T : ByteArray) (a : Nat) (w : World) : Calls Tryd.prog 48 #[.string (restS T a)] w fun e w' => e = .returned (.int .i64 (wl (T.data.toList.drop a))) ∧ Below w.heap.size w w' := by
  have := wordLen_any (restS T a) w
  rw [restS_list] at this
  exact this
set_option maxRecDepth 100000 in
theorem word_any (R : Nat) (T : ByteArray) (a : Nat) (w : World) (h : Rd w R T a 0) (ha : a ≤ T.size) (hT : T.size ≤ 4096) :
    Calls Tryd.prog 31 #[.pointer (some ⟨R, 0, none⟩)] w (Took (decide (wl (T.data.toList.drop a) ≤ 32)) ((T.data.toList.drop a).take (wl (T.data.toList.drop a))) (wl (T.data.toList.drop a)) R T a w) := by
  have hwl := wl_le (T.data.toList.drop a)
  have hlen : (T.data.toList.drop a).length = T.size - a := by simp
  rw [hlen] at hwl
  have hWL := wordLen_rest T a
  obtain ⟨n, hn⟩ : ∃ n, n = wl (T.data.toList.drop a) := ⟨_, rfl⟩
  rw [← hn] at hwl hWL ⊢
  have HTK : Hid (∀ wx, Rd wx R T a 0 → Calls Tryd.prog 34 #[.pointer (some ⟨R, 0, none⟩), .int .i64 n] wx fun e w' => e = .returned (.string ⟨((T.data.toList.drop a).take n).toArray⟩) ∧ Aft wx w' R T (a + n) 0) := fun wx hx => take_any R T a 0 n wx hx (by omega) hT
  have HRC : Hid (∀ wx, Rd wx R T a 0 → Calls Tryd.prog 36 #[.pointer (some ⟨R, 0, none⟩)] wx fun e w' => e = .returned (.string (restS T a)) ∧ ∃ n, w' = wx.drewN n) := fun wx hx => rest_any R T a 0 wx hx ha hT
  have HWL := Lib.hid hWL
  have HA := Lib.hid (Aft.refl h)
  have hn4 : (n : Int) ≤ 4096 := by omega
  obtain ⟨P, hP⟩ : ∃ P : ByteArray, P = ⟨((T.data.toList.drop a).take n).toArray⟩ := ⟨_, rfl⟩
  rw [← hP] at HTK
  have HPP : Hid (P = ⟨((T.data.toList.drop a).take n).toArray⟩) := hP
  clear hP hWL hlen hwl hn ha hT
  by_cases h32 : n ≤ 32
  · have b32 : decide ((32 : Int) < (n : Int)) = false := by simp; omega
    have HG : Hid (decide (n ≤ 32) = true) := by show _ = _; simp [h32]
    have b33 : (n : Int) ≤ 32 := by omega
    clear h32 h
    go_enter Tryd.func31, Tryd.ntmps31
    go_wp2_with (first | (go_at_call 36; refine (HRC.out _ HA.out.r).mono ?_; rintro e w1 ⟨rfl, k1, hw1⟩; have HA1 := Lib.hid (by rw [hw1]; exact HA.out.drewN k1 : Aft w w1 R T a 0); clear hw1) | (go_at_call 48; refine (HWL.out _).mono ?_; rintro e w2 ⟨rfl, hb2⟩; have HA2 := Lib.hid (HA1.out.below hb2); clear hb2) | (go_at_call 34; refine (HTK.out _ HA2.out.r).mono ?_; rintro e w3 ⟨rfl, ha3⟩; have HA3 := Lib.hid (HA2.out.trans ha3); clear ha3))
    go_ret
    rw [HG.out]
    exact ⟨by rw [← HPP.out]; rfl, HA3.out⟩
  · have b32 : decide ((32 : Int) < (n : Int)) = true := by simp; omega
    have HG : Hid (decide (n ≤ 32) = false) := by show _ = _; simp; omega
    have b33 : (32 : Int) < (n : Int) := by omega
    have HF : Hid (∀ wx, Rd wx R T a 0 → Calls Tryd.prog 37 #[.pointer (some ⟨R, 0, none⟩), .int .i64 a, .int .i64 51] wx fun e w' => e = .returned (.tuple #[]) ∧ Aft wx w' R T a 51) := fun wx hx => fail_any R T a 0 a 51 wx hx
    clear h32 h
    go_enter Tryd.func31, Tryd.ntmps31
    go_wp2_with (first | (go_at_call 36; refine (HRC.out _ HA.out.r).mono ?_; rintro e w1 ⟨rfl, k1, hw1⟩; have HA1 := Lib.hid (by rw [hw1]; exact HA.out.drewN k1 : Aft w w1 R T a 0); clear hw1) | (go_at_call 48; refine (HWL.out _).mono ?_; rintro e w2 ⟨rfl, hb2⟩; have HA2 := Lib.hid (HA1.out.below hb2); clear hb2; have hA2 := HA2.out.r; obtain ⟨d0, d1, d2, y1, y2⟩ := hA2) | (go_at_call 37; refine (HF.out _ HA2.out.r).mono ?_; rintro e w3 ⟨rfl, ha3⟩; have HA3 := Lib.hid (HA2.out.trans ha3); clear ha3))
    go_ret
    rw [HG.out]
    exact ⟨rfl, HA3.out⟩
/-- the library's errors and table -/
structure Errs (w : World) : Prop where
  errs : ErrVars w
  pow : PowTab w
theorem Errs.below {w w' : World} (h : Errs w) (hb : Below w.heap.size w w') : Errs w' := ⟨h.errs.below hb, h.pow.below hb⟩
/-- w is what w0 has become: nothing that was there has turned, and the calls may go on -/
structure Ok (w0 w : World) : Prop where
  inv : Errs w0
  below : Below w0.heap.size w0 w
theorem Ok.now {w0 w : World} (h : Ok w0 w) : Errs w := h.inv.below h.below
theorem Ok.on {w0 w w' : World} (h : Ok w0 w) (hb : Below w0.heap.size w w') : Ok w0 w' := ⟨h.inv, h.below.trans hb⟩
theorem Ok.aft {w0 w w' : World} {R : Nat} {T : ByteArray} {a : Nat} {f : Int} (h : Ok w0 w) (k : Aft w w' R T a f) (hr : w0.heap.size ≤ R) : Ok w0 w' :=
  h.on ⟨k.g.os, k.g.tape, k.g.output, k.g.size, fun i hi => k.g.block i (Nat.lt_of_lt_of_le hi h.below.size) (by simp; omega)⟩
theorem i64_of_parse' {l : List UInt8} {v : Int} (h : Lib.parseIntB 64 l = .ok v) : I64 v := i64_of_parse h
theorem numB_of {d : ByteArray} {c : UInt8} {t : List UInt8} (hd : d.data.toList = c :: t) (hc : dgB c = true) {K N : Int} {S : ByteArray} {B : Bool} (hv : valid K N S B = true) (hn : I64 N) (hs : showT K N S B = d.data.toList) : numB d.data.toList = true := by
  have hc' : 48 ≤ c.toNat ∧ c.toNat ≤ 57 := by
    unfold dgB dgt at hc
    simp at hc
    omega
  have hk : K = 1 := by
    rcases valid_kind hv with rfl | rfl | rfl
    · rfl
    · rw [showT_2 hv, quoteL_eq, hd] at hs
      simp only [List.cons.injEq] at hs
      rw [← hs.1] at hc'
      exact absurd hc'.1 (by decide)
    · rw [showT_3 hv, hd] at hs
      cases B <;> simp at hs <;> rw [← hs.1] at hc' <;> exact absurd hc'.2 (by decide)
  subst hk
  rw [showT_1 hv] at hs
  unfold numB
  rw [← hs, parse_itoa N hn]
  simp
theorem show_of_numB {d : List UInt8} (h : numB d = true) : ∃ v, I64 v ∧ valid 1 v ⟨#[]⟩ false = true ∧ d = showT 1 v ⟨#[]⟩ false := by
  unfold numB at h
  split at h
  · rename_i v hv
    have hd : Lib.itoa v = d := by simpa using h
    refine ⟨v, i64_of_parse hv, valid_mk1 v, ?_⟩
    rw [showT_1 (valid_mk1 v), hd]
  · cases h
/-- value.Read of what begins with a digit -/
theorem read_num (d : ByteArray) (c : UInt8) (t : List UInt8) (hd : d.data.toList = c :: t) (hc : dgB c = true) (w : World) (he : Errs w) :
    Calls Tryd.prog 49 #[.string d] w fun e w' => (∃ K N S B, e = .returned (.tuple #[.agg #[.int .i64 K, .int .i64 N, .string S, .bool B], .int .i64 (if numB d.data.toList = true then 0 else 12)])) ∧ Below w.heap.size w w' := by
  refine (read_any d w he.errs he.pow).mono ?_
  rintro e w' ⟨K, N, S, B, E, rfl, hb, h⟩
  refine ⟨⟨K, N, S, B, ?_⟩, hb⟩
  rcases h with ⟨rfl, hv, hn, hs⟩ | ⟨rfl, rfl, rfl, rfl, rfl, hno⟩
  · rw [if_pos (numB_of hd hc hv hn hs)]
  · rw [if_neg]
    intro hx
    obtain ⟨v, hv, hvl, hs⟩ := show_of_numB hx
    exact hno 1 v ⟨#[]⟩ false hv hvl hs
set_option maxRecDepth 100000 in
theorem num_any (R : Nat) (T : ByteArray) (a : Nat) (w0 w : World) (h : Rd w R T a 0) (ha : a ≤ T.size) (hT : T.size ≤ 4096) (hok : Ok w0 w) (hr : w0.heap.size ≤ R) (c : UInt8) (t : List UInt8) (hd : T.data.toList.drop a = c :: t) (hc : dgB c = true) :
    Calls Tryd.prog 32 #[.pointer (some ⟨R, 0, none⟩)] w (Took (numB ((T.data.toList.drop a).take (wl (T.data.toList.drop a)))) ((T.data.toList.drop a).take (wl (T.data.toList.drop a))) (wl (T.data.toList.drop a)) R T a w) := by
  have hwl := wl_le (T.data.toList.drop a)
  have hpos : 0 < wl (T.data.toList.drop a) := by rw [hd]; exact wl_dg t hc
  have hlen : (T.data.toList.drop a).length = T.size - a := by simp
  rw [hlen] at hwl
  have hWL := wordLen_rest T a
  have hz := restS_size T a
  obtain ⟨n, hn⟩ : ∃ n, n = wl (T.data.toList.drop a) := ⟨_, rfl⟩
  rw [← hn] at hwl hWL hpos ⊢
  have hP : ((restS T a).extract 0 n).data.toList = (T.data.toList.drop a).take n := by
    rw [ByteArray.data_extract]
    simp only [Array.toList_extract, List.extract_eq_take_drop, restS_list]
    simp
  have HTK : Hid (∀ wx, Aft w wx R T a 0 → Calls Tryd.prog 34 #[.pointer (some ⟨R, 0, none⟩), .int .i64 n] wx fun e w' => e = .returned (.string ⟨((T.data.toList.drop a).take n).toArray⟩) ∧ Aft w w' R T (a + n) 0) := fun wx hx => (take_any R T a 0 n wx hx.r (by omega) hT).mono fun e w' ⟨h1, h2⟩ => ⟨h1, hx.trans h2⟩
  have HRC : Hid (∀ wx, Aft w wx R T a 0 → Calls Tryd.prog 36 #[.pointer (some ⟨R, 0, none⟩)] wx fun e w' => e = .returned (.string (restS T a)) ∧ Aft w w' R T a 0) := fun wx hx => (rest_any R T a 0 wx hx.r ha hT).mono fun e w' ⟨h1, k, h2⟩ => ⟨h1, by rw [h2]; exact hx.drewN k⟩
  have HF : Hid (∀ wx, Aft w wx R T a 0 → Calls Tryd.prog 37 #[.pointer (some ⟨R, 0, none⟩), .int .i64 a, .int .i64 51] wx fun e w' => e = .returned (.tuple #[]) ∧ Aft w w' R T a 51) := fun wx hx => (fail_any R T a 0 a 51 wx hx.r).mono fun e w' ⟨h1, h2⟩ => ⟨h1, hx.trans h2⟩
  have HWL : Hid (∀ wx, Aft w wx R T a 0 → Calls Tryd.prog 48 #[.string (restS T a)] wx fun e w' => e = .returned (.int .i64 n) ∧ Aft w w' R T a 0) := fun wx hx => by
    have := wordLen_rest T a wx
    rw [← hn] at this
    exact this.mono fun e w' ⟨h1, h2⟩ => ⟨h1, hx.below h2⟩
  have HA : Aft w w R T a 0 := Aft.refl h
  obtain ⟨q, hq⟩ : ∃ q, q = (if numB ((T.data.toList.drop a).take n) = true then (0 : Int) else 12) := ⟨_, rfl⟩
  have HRD : Hid (∀ wx, Aft w wx R T a 0 → Calls Tryd.prog 49 #[.string ((restS T a).extract 0 n)] wx fun e w' => (∃ K N S B, e = .returned (.tuple #[.agg #[.int .i64 K, .int .i64 N, .string S, .bool B], .int .i64 q])) ∧ Aft w w' R T a 0) := fun wx hx => by
    have hp2 : ((restS T a).extract 0 n).data.toList = c :: t.take (n - 1) := by
      rw [hP, hd]
      cases n with
      | zero => omega
      | succ m => rfl
    have := read_num _ _ _ hp2 hc wx (hok.aft hx hr).now
    rw [hP, ← hq] at this
    exact this.mono fun e w' ⟨h1, h2⟩ => ⟨h1, hx.below h2⟩
  have hn4 : (n : Int) ≤ 4096 := by omega
  have v0 : n ≤ (restS T a).size := by omega
  clear hP hWL hlen hwl hn ha hT hok hz hpos hr hd
  cases hnb : numB ((T.data.toList.drop a).take n)
  · rw [hnb] at hq
    have q1 : q = 12 := hq
    subst q1
    clear hq hnb h
    go_enter Tryd.func32, Tryd.ntmps32
    go_wp2_with (first | (go_at_call 36; refine (HRC.out _ (by first | exact hA3' _ | assumption)).mono ?_; rintro e w1 ⟨rfl, hA1⟩) | (go_at_call 48; refine (HWL.out _ (by assumption)).mono ?_; rintro e w2 ⟨rfl, hA2⟩) | (go_at_call 49; refine (HRD.out _ (by assumption)).mono ?_; rintro e w3 ⟨⟨K, N, S, B, rfl⟩, hA3⟩; have hA3' := fun o => hA3.alloc o; have hlt := hA3.r.lt; obtain ⟨d0, d1, d2, y1, y2⟩ := hA3.r) | (go_at_call 37; refine (HF.out _ (hA3' _)).mono ?_; rintro e w4 ⟨rfl, hA4⟩))
    go_ret
    exact ⟨rfl, by assumption⟩
  · rw [hnb] at hq
    have q1 : q = 0 := hq
    subst q1
    clear hq hnb h
    obtain ⟨P, hP⟩ : ∃ P : ByteArray, P = ⟨((T.data.toList.drop a).take n).toArray⟩ := ⟨_, rfl⟩
    rw [← hP] at HTK
    have HPP : Hid (P = ⟨((T.data.toList.drop a).take n).toArray⟩) := hP
    clear hP
    go_enter Tryd.func32, Tryd.ntmps32
    go_wp2_with (first | (go_at_call 36; refine (HRC.out _ (by first | exact hA3' _ | assumption)).mono ?_; rintro e w1 ⟨rfl, hA1⟩) | (go_at_call 48; refine (HWL.out _ (by assumption)).mono ?_; rintro e w2 ⟨rfl, hA2⟩) | (go_at_call 49; refine (HRD.out _ (by assumption)).mono ?_; rintro e w3 ⟨⟨K, N, S, B, rfl⟩, hA3⟩; have hA3' := fun o => hA3.alloc o) | (go_at_call 34; refine (HTK.out _ (hA3' _)).mono ?_; rintro e w4 ⟨rfl, hA4⟩))
    go_ret
    exact ⟨by rw [← HPP.out]; rfl, by assumption⟩
end Go.Proofs.YtdafnkfnaknoiaaDoor
