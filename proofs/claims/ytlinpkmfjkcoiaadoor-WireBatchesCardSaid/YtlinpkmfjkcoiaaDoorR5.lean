/- Contracts of the reader's numberWithin, oneWithin, text; of Int. -/
import Derived.Test.YtlinpkmfjkcoiaaDoorR4
namespace Go.Proofs.YtlinpkmfjkcoiaaDoor
open Go Go.RowKit
set_option maxHeartbeats 4000000
set_option linter.unusedVariables false
set_option linter.unusedSimpArgs false
/-- a reader that lies in a world -/
structure Lies (w : World) (R : Nat) (p : Option Addr) (c : Nat) (l : List UInt8) (a : Nat) (f : Int) : Prop where
  rd : Rdr w R (.slice p l.length c) a f
  by_ : Byt w R p l
  le : a ≤ l.length
  cp : l.length ≤ c
  mx : c ≤ maxLen
theorem Lies.after {w w' : World} {R : Nat} {p : Option Addr} {c : Nat} {l : List UInt8} {a a' : Nat} {f f' : Int} (h : Lies w R p c l a f) (k : After w w' R (.slice p l.length c) l.length a' f') : Lies w' R p c l a' f' := ⟨k.r, h.by_.grown k.g, k.le, h.cp, h.mx⟩
theorem Lies.below {w w' : World} {R : Nat} {p : Option Addr} {c : Nat} {l : List UInt8} {a : Nat} {f : Int} (h : Lies w R p c l a f) (hb : Below w.heap.size w w') : Lies w' R p c l a f :=
  ⟨h.rd.below hb, h.by_.grown ⟨hb.os, hb.tape, hb.output, hb.size, fun i hi _ => hb.block i hi⟩, h.le, h.cp, h.mx⟩
theorem Came.bad {α : Type} {a a' : Nat} {f f' : Int} {r : Res α} {V : α → Prop} (h : Came a a' f f' r V) (hf : f ≠ 0) : f' = f := by
  rcases h with h | h
  · exact h.2
  · exact absurd h.1 hf
/-- a test behind it -/
theorem Came.only {α : Type} {p : Rd α} {l : List UInt8} {a a' : Nat} {f f1 f2 : Int} {v : α} (h : Came a a' f f1 (p l) (· = v)) (ok : α → Bool) (hd1 : f1 ≠ 0 → f2 = f1) (hd2 : ok v = true → f2 = f1) (hd3 : f1 = 0 → ok v = false → f2 = 31) : Came a a' f f2 (p.only ok l) (· = v) := by
  rcases h with ⟨h1, h2⟩ | ⟨h0, h⟩
  · exact .inl ⟨h1, by rw [hd1 (by rw [h2]; exact h1), h2]⟩
  · refine .inr ⟨h0, ?_⟩
    unfold Rd.only
    cases hp : p l with
    | bad E =>
      rw [hp] at h
      exact ⟨by rw [hd1 (by rw [h.1]; exact h.2), h.1], h.2⟩
    | ok u k =>
      rw [hp] at h
      obtain ⟨h1, h2, rfl⟩ := h
      simp only
      cases hk : ok u
      · exact ⟨hd3 h1 hk, by decide⟩
      · exact ⟨(hd2 hk).trans h1, h2, rfl⟩
/-- one behind the other -/
theorem Came.andThen {α β : Type} {p : Rd α} {g : α → Rd β} {l : List UInt8} {a a1 a2 : Nat} {f f1 f2 : Int} {v : α} {V : β → Prop} (h1 : Came a a1 f f1 (p (l.drop a)) (· = v)) (h2 : Came a1 a2 f1 f2 (g v (l.drop a1)) V) : Came a a2 f f2 ((p.andThen g) (l.drop a)) V := by
  rcases h1 with ⟨h3, h4⟩ | ⟨h3, h4⟩
  · exact .inl ⟨h3, by rw [h2.bad (by rw [h4]; exact h3), h4]⟩
  · refine .inr ⟨h3, ?_⟩
    unfold Rd.andThen
    cases hp : p (l.drop a) with
    | bad E =>
      rw [hp] at h4
      have := h2.bad (by rw [h4.1]; exact h4.2)
      exact ⟨by rw [this, h4.1], h4.2⟩
    | ok u k =>
      rw [hp] at h4
      obtain ⟨h5, h6, rfl⟩ := h4
      simp only
      rcases h2 with ⟨h7, _⟩ | ⟨_, h8⟩
      · exact absurd h5 h7
      · rw [List.drop_drop, ← h6]
        cases hq : g u (l.drop a1) with
        | bad E => rw [hq] at h8; exact h8
        | ok u2 j =>
          rw [hq] at h8
          obtain ⟨h9, h10, h11⟩ := h8
          exact ⟨h9, by omega, h11⟩
theorem Came.map {α β : Type} {p : Rd α} {g : α → β} {l : List UInt8} {a a1 : Nat} {f f1 : Int} {v : α} (h : Came a a1 f f1 (p l) (· = v)) : Came a a1 f f1 ((p.map g) l) (· = g v) := by
  rcases h with h | ⟨h0, h⟩
  · exact .inl h
  · refine .inr ⟨h0, ?_⟩
    unfold Rd.map
    cases hp : p l with
    | bad E => rw [hp] at h; exact h
    | ok u k =>
      rw [hp] at h
      obtain ⟨h1, h2, rfl⟩ := h
      exact ⟨h1, h2, rfl⟩
def NumIn (w : World) (R : Nat) (sv : Value) (l : List UInt8) (a : Nat) (f lo hi : Int) (e : Ending) (w' : World) : Prop :=
  ∃ (n : Int) (a' : Nat) (f' : Int), e = .returned (.int .i64 n) ∧ I64 n ∧ After w w' R sv l.length a' f' ∧ Came a a' f f' (numW lo hi (l.drop a)) (· = n)
set_option maxRecDepth 100000 in
theorem numberWithin_any (R : Nat) (p : Option Addr) (c : Nat) (l : List UInt8) (a : Nat) (f lo hi : Int) (w : World) (h : Lies w R p c l a f) :
    Calls Tryd.prog 81 #[.pointer (some ⟨R, 0, none⟩), .int .i64 lo, .int .i64 hi] w (NumIn w R (.slice p l.length c) l a f lo hi) := by
  have hn := num_any R p c l a f w h.rd h.by_ h.le h.cp h.mx
  obtain ⟨sv, hsv⟩ : ∃ sv, sv = Value.slice p l.length c := ⟨_, rfl⟩
  rw [← hsv] at hn ⊢
  clear hsv h
  go_enter Tryd.func81, Tryd.ntmps81
  go_wp2_with fail
  refine hn.mono ?_
  rintro e w1 ⟨n, a1, f1, rfl, hi64, haf, hca⟩
  have HA := Lib.hid haf
  have HC := Lib.hid hca
  have HI := Lib.hid hi64
  clear hn haf hca hi64
  obtain ⟨okf, hok⟩ : ∃ okf : Int → Bool, okf = fun n => decide (lo ≤ n) && decide (n ≤ hi) := ⟨_, rfl⟩
  have fin : ∀ (b : Bool) (w2 : World) (f2 : Int), b = (decide (lo ≤ n) && decide (n ≤ hi)) → After w1 w2 R sv l.length a1 f2 → (f1 ≠ 0 → f2 = f1) → (b = true → f2 = f1) → (f1 = 0 → b = false → f2 = 31) → After w w2 R sv l.length a1 f2 ∧ Came a a1 f f2 (numW lo hi (l.drop a)) (· = n) := by
    intro b w2 f2 hb h1 h2 h3 h4
    subst hb
    exact ⟨HA.out.trans h1, HC.out.only (fun n => decide (lo ≤ n) && decide (n ≤ hi)) h2 h3 h4⟩
  have FIN := Lib.hid fin
  clear fin hok
  by_cases h1 : lo ≤ n
  · have d1 : decide (lo ≤ n) = true := by simpa using h1
    obtain ⟨b, hb⟩ : ∃ b, b = decide (n ≤ hi) := ⟨_, rfl⟩
    go_wp2_with fail
    rw [← hb]
    have HB : Hid (b = (decide (lo ≤ n) && decide (n ≤ hi))) := by show _ = _; rw [d1, ← hb]; rfl
    clear hb
    refine (demand_dem R sv l.length a1 f1 b 31 w1 HA.out.r HA.out.le).mono ?_
    rintro e w2 ⟨rfl, f2, haf2, hd1, hd2, hd3⟩
    have HF := Lib.hid (FIN.out b w2 f2 HB.out haf2 hd1 hd2 hd3)
    clear haf2 hd1 hd2 hd3
    go_wp2
    go_ret
    exact ⟨n, a1, f2, rfl, HI.out, HF.out.1, HF.out.2⟩
  · have d1 : decide (lo ≤ n) = false := by simpa using h1
    have HB : Hid (false = (decide (lo ≤ n) && decide (n ≤ hi))) := by show _ = _; rw [d1]; rfl
    go_wp2_with fail
    refine (demand_dem R sv l.length a1 f1 false 31 w1 HA.out.r HA.out.le).mono ?_
    rintro e w2 ⟨rfl, f2, haf2, hd1, hd2, hd3⟩
    have HF := Lib.hid (FIN.out false w2 f2 HB.out haf2 hd1 hd2 hd3)
    clear haf2 hd1 hd2 hd3
    go_wp2
    go_ret
    exact ⟨n, a1, f2, rfl, HI.out, HF.out.1, HF.out.2⟩
def OneIn (w : World) (R : Nat) (sv : Value) (l : List UInt8) (a : Nat) (f : Int) (lo hi : Nat) (e : Ending) (w' : World) : Prop :=
  ∃ (x : UInt8) (a' : Nat) (f' : Int), e = .returned (.int .u8 (x.toNat : Int)) ∧ After w w' R sv l.length a' f' ∧ Came a a' f f' (byteW lo hi (l.drop a)) (· = x)
set_option maxRecDepth 100000 in
theorem oneWithin_any (R : Nat) (p : Option Addr) (c : Nat) (l : List UInt8) (a : Nat) (f : Int) (lo hi : Nat) (w : World) (h : Lies w R p c l a f) :
    Calls Tryd.prog 95 #[.pointer (some ⟨R, 0, none⟩), .int .u8 lo, .int .u8 hi] w (OneIn w R (.slice p l.length c) l a f lo hi) := by
  have hn := one_any R p c l a f w h.rd h.by_ h.le h.cp h.mx
  obtain ⟨sv, hsv⟩ : ∃ sv, sv = Value.slice p l.length c := ⟨_, rfl⟩
  rw [← hsv] at hn ⊢
  clear hsv h
  go_enter Tryd.func95, Tryd.ntmps95
  go_wp2_with fail
  refine hn.mono ?_
  rintro e w1 ⟨x, a1, f1, rfl, haf, hca, _⟩
  have HA := Lib.hid haf
  have HC := Lib.hid hca
  clear hn haf hca
  have fin : ∀ (b : Bool) (w2 : World) (f2 : Int), b = (decide (lo ≤ x.toNat) && decide (x.toNat ≤ hi)) → After w1 w2 R sv l.length a1 f2 → (f1 ≠ 0 → f2 = f1) → (b = true → f2 = f1) → (f1 = 0 → b = false → f2 = 31) → After w w2 R sv l.length a1 f2 ∧ Came a a1 f f2 (byteW lo hi (l.drop a)) (· = x) := by
    intro b w2 f2 hb h1 h2 h3 h4
    subst hb
    exact ⟨HA.out.trans h1, HC.out.only (fun b => decide (lo ≤ b.toNat) && decide (b.toNat ≤ hi)) h2 h3 h4⟩
  have FIN := Lib.hid fin
  clear fin
  by_cases h1 : lo ≤ x.toNat
  · have d1 : decide ((lo : Int) ≤ (x.toNat : Int)) = true := by simp; omega
    have e1 : decide (lo ≤ x.toNat) = true := by simpa using h1
    obtain ⟨b, hb⟩ : ∃ b, b = decide (x.toNat ≤ hi) := ⟨_, rfl⟩
    have HB : Hid (b = (decide (lo ≤ x.toNat) && decide (x.toNat ≤ hi))) := by show _ = _; rw [e1, ← hb]; rfl
    clear e1
    go_wp2_with fail
    rw [← hb]
    clear hb
    refine (demand_dem R sv l.length a1 f1 b 31 w1 HA.out.r HA.out.le).mono ?_
    rintro e w2 ⟨rfl, f2, haf2, hd1, hd2, hd3⟩
    have HF := Lib.hid (FIN.out b w2 f2 HB.out haf2 hd1 hd2 hd3)
    clear haf2 hd1 hd2 hd3
    go_wp2
    go_ret
    exact ⟨x, a1, f2, rfl, HF.out.1, HF.out.2⟩
  · have d1 : decide ((lo : Int) ≤ (x.toNat : Int)) = false := by simp; omega
    have HB : Hid (false = (decide (lo ≤ x.toNat) && decide (x.toNat ≤ hi))) := by show _ = _; rw [decide_eq_false h1]; rfl
    go_wp2_with fail
    refine (demand_dem R sv l.length a1 f1 false 31 w1 HA.out.r HA.out.le).mono ?_
    rintro e w2 ⟨rfl, f2, haf2, hd1, hd2, hd3⟩
    have HF := Lib.hid (FIN.out false w2 f2 HB.out haf2 hd1 hd2 hd3)
    clear haf2 hd1 hd2 hd3
    go_wp2
    go_ret
    exact ⟨x, a1, f2, rfl, HF.out.1, HF.out.2⟩
def Txt (w : World) (R : Nat) (sv : Value) (l : List UInt8) (a : Nat) (f lo hi : Int) (e : Ending) (w' : World) : Prop :=
  ∃ (s : List UInt8) (a' : Nat) (f' : Int), e = .returned (.string ⟨s.toArray⟩) ∧ s.length ≤ maxLen ∧ After w w' R sv l.length a' f' ∧ Came a a' f f' (text lo hi (l.drop a)) (· = s)
set_option maxRecDepth 100000 in
theorem text_r (R : Nat) (p : Option Addr) (c : Nat) (l : List UInt8) (a : Nat) (f lo hi : Int) (hlo : 0 ≤ lo) (w : World) (h : Lies w R p c l a f) :
    Calls Tryd.prog 80 #[.pointer (some ⟨R, 0, none⟩), .int .i64 lo, .int .i64 hi] w (Txt w R (.slice p l.length c) l a f lo hi) := by
  have H := Lib.hid h
  have hn := numberWithin_any R p c l a f lo hi w h
  have HT : Hid (∀ wx a' f' n, Lies wx R p c l a' f' → (f' = 0 → 0 ≤ n) → I64 n → Calls Tryd.prog 88 #[.pointer (some ⟨R, 0, none⟩), .int .i64 n] wx (Taken wx R (.slice p l.length c) l a' f' n)) := fun wx a' f' n h0 h1 h2 => take_any R p c l a' f' n wx h0.rd h0.by_ h0.le h0.cp h0.mx h1 h2
  clear h
  go_enter Tryd.func80, Tryd.ntmps80
  go_wp2_with fail
  refine hn.mono ?_
  rintro e w1 ⟨n, a1, f1, rfl, hi64, haf, hca⟩
  have HA := Lib.hid haf
  have HC := Lib.hid hca
  have HI := Lib.hid hi64
  have HL1 := Lib.hid (H.out.after haf)
  clear hn haf hca hi64
  have hpos : f1 = 0 → lo ≤ n := by
    intro h0
    rcases HC.out with ⟨h1, h2⟩ | ⟨h1, h2⟩
    · exact absurd (h2.symm.trans h0) h1
    · cases hr : numW lo hi (l.drop a) with
      | bad E => rw [hr] at h2; exact absurd (h2.1.symm.trans h0) h2.2
      | ok v k =>
        rw [hr] at h2
        obtain ⟨_, _, rfl⟩ := h2
        unfold numW Rd.only at hr
        split at hr
        · cases hr
        · split at hr
          · rename_i hc
            simp only [Res.ok.injEq] at hr
            obtain ⟨rfl, rfl⟩ := hr
            simp only [Bool.and_eq_true, decide_eq_true_eq] at hc
            exact hc.1
          · cases hr
  have HP := Lib.hid hpos
  clear hpos
  go_wp2_with fail
  refine (HT.out w1 a1 f1 n HL1.out (fun h => by have := HP.out h; omega) HI.out).mono ?_
  rintro e w2 ⟨q, ys, d, a2, f2, rfl, haf2, hby, hyd, hdm, hca2, hno⟩
  have HA2 := Lib.hid (HA.out.trans haf2)
  have HC2 := Lib.hid hca2
  have hrs := run_str hby d
  have HY : Hid (ys.length ≤ maxLen) := Nat.le_trans hyd hdm
  clear haf2 hca2 hno hby hyd hdm
  go_wp2
  go_ret
  refine ⟨ys, a2, f2, rfl, HY.out, HA2.out, ?_⟩
  exact HC.out.andThen HC2.out
end Go.Proofs.YtlinpkmfjkcoiaaDoor
