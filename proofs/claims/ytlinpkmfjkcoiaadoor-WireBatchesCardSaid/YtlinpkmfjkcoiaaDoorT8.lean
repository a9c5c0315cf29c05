/- Contracts of the document's own answer's reader: fault, one, number. Contract of the document's own answer's reader: number. Contract of the document's own answer's reader: text. Contract of the document's own answer's reader: value. Contract of the document's own answer's Decode. -/
import Derived.Test.YtlinpkmfjkcoiaaDoorT3
import Derived.BigQuiet
import Derived.Deep.QuietTactic
import Derived.IntWalk
import Derived.Deep.RegionHeld3
import Derived.Deep.DeepCutAuto
import Derived.Deep.CutRange
import Derived.LoopTactic
import Derived.Deep.RegionLaw
import Derived.Deep.AppendLies
namespace Go.Proofs.YtlinpkmfjkcoiaaDoor
open Go Go.RowKit
set_option maxHeartbeats 2000000
set_option linter.unusedVariables false
set_option linter.unusedSimpArgs false
attribute [local go_sem ↓] run_rest
theorem fault_r (R : Nat) (sv : Value) (a : Nat) (f : Int) (E : Int) (w : World) (hr : Rdr w R sv a f) : Calls Tryd.prog 59 #[.pointer (some ⟨R, 0, none⟩), .int .i64 E] w (Demanded w R f false E) := by
  obtain ⟨c0, c1, c2, z1, z2⟩ := hr
  by_cases hf : f = 0
  · subst hf
    go_enter Tryd.func59, Tryd.ntmps59
    go_wp2
    first | go_end0 | refine bodyPost_ret (v := .tuple #[]) (by simp [results, Tryd.results59, go_sem]) rfl ?_
    exact ⟨rfl, by simp⟩
  · have hf' : (f == 0) = false := by simpa using hf
    have HF := Lib.hid hf
    clear hf
    go_enter Tryd.func59, Tryd.ntmps59
    go_wp2
    first | go_end0 | refine bodyPost_ret (v := .tuple #[]) (by simp [results, Tryd.results59, go_sem]) rfl ?_
    exact ⟨rfl, by rw [if_neg (fun h => HF.out h.1)]⟩
theorem fault_dem (R : Nat) (sv : Value) (n a : Nat) (f : Int) (E : Int) (w : World) (hr : Rdr w R sv a f) (ha : a ≤ n) : Calls Tryd.prog 59 #[.pointer (some ⟨R, 0, none⟩), .int .i64 E] w (Dem w R sv n a f false E) := by
  refine (fault_r R sv a f E w hr).mono ?_
  rintro e w' ⟨rfl, rfl⟩
  refine ⟨rfl, ?_⟩
  by_cases h : f = 0 ∧ false = false
  · rw [if_pos h]
    exact ⟨E, ⟨Lib.grownBy_setB (World.grownBy.refl w _) 2 _, hr.bad E, ha⟩, (fun hf => absurd h.1 hf), (fun hk => by cases hk), (fun _ _ => rfl)⟩
  · rw [if_neg h]
    exact ⟨f, After.refl hr ha, fun _ => rfl, fun _ => rfl, fun h0 hk => absurd ⟨h0, hk⟩ h⟩
theorem After.drewN {w : World} {R : Nat} {sv : Value} {n a : Nat} {f : Int} (h : Rdr w R sv a f) (ha : a ≤ n) (m : Nat) : After w (w.drewN m) R sv n a f := ⟨grown_drewN w m _, h.drewN m, ha⟩
theorem After.at {w w1 : World} {R : Nat} {sv : Value} {n a : Nat} {f : Int} (h : After w w1 R sv n a f) {a1 : Nat} (ha : a1 ≤ n) : After w (w1.setCell ⟨R, 1, none⟩ (.int .i64 a1)) R sv n a1 f := ⟨Lib.grownBy_setB h.g 1 _, h.r.at a1, ha⟩
set_option maxRecDepth 100000 in
theorem refOne_any (R : Nat) (p : Option Addr) (c : Nat) (l : List UInt8) (a : Nat) (f : Int) (w : World) (h : Lies w R p c l a f) :
    Calls Tryd.prog 86 #[.pointer (some ⟨R, 0, none⟩)] w (One w R (.slice p l.length c) l a f) := by
  have H := Lib.hid h
  have hr := h.rd
  have ha := h.le
  have HAF := Lib.hid (After.refl h.rd h.le)
  have HDR : Hid (∀ k, After w (w.drewN k) R (.slice p l.length c) l.length a f) := fun k => After.drewN h.rd h.le k
  have hcm : c ≤ 9223372036854775807 := by have := h.mx; unfold maxLen at this; exact this
  have hcl := h.cp
  obtain ⟨m, hml⟩ : ∃ m, m = l.length := ⟨_, rfl⟩
  have HM := Lib.hid hml
  rw [← hml] at hr ha hcl HAF HDR ⊢
  clear h
  by_cases hf : f = 0
  · subst hf
    obtain ⟨c0, c1, c2, z1, z2⟩ := hr
    by_cases hm : a = m
    · have de : ((a : Int) == (m : Int)) = true := by simp; omega
      have HND : Hid (oneR (l.drop a) = .bad 30) := by
        show _ = _
        rw [List.drop_eq_nil_of_le (by omega)]
        rfl
      clear hm hml hcl ha
      go_enter Tryd.func86, Tryd.ntmps86
      go_wp2
      go_quiet (fail)
      obtain ⟨w1, hw1⟩ : ∃ w1, w1 = w.drewN nq := ⟨_, rfl⟩
      rw [← hw1]
      have HA1 : Hid (After w w1 R (.slice p m c) m a 0) := by show After _ _ _ _ _ _ _; rw [hw1]; exact HDR.out nq
      clear hw1 c0 c1 c2 z1 z2
      go_wp2_with fail
      refine (fault_dem R _ m a 0 30 w1 HA1.out.r HA1.out.le).mono ?_
      rintro e w2 ⟨rfl, f2, haf2, _, _, hd3⟩
      have HA2 := Lib.hid (HA1.out.trans haf2)
      obtain rfl := (hd3 rfl rfl)
      clear haf2 hd3
      go_wp2
      go_ret
      exact ⟨0, a, 30, rfl, by rw [← HM.out]; exact HA2.out, .inr ⟨rfl, by rw [HND.out]; exact ⟨rfl, by decide⟩⟩, fun _ => rfl⟩
    · have de : ((a : Int) == (m : Int)) = false := by simp; omega
      have hal : a < l.length := by omega
      have ham : (a : Int) < (m : Int) := by omega
      obtain ⟨b, o, rfl, _, d⟩ := H.out.by_ a hal
      obtain ⟨x, hx⟩ : ∃ x, x = l[a] := ⟨_, rfl⟩
      rw [← hx] at d
      have HND : Hid (oneR (l.drop a) = .ok x 1) := by
        show _ = _
        rw [List.drop_eq_getElem_cons hal, hx]
        rfl
      have HBY : Hid (∀ w', w.grownBy w' (some R) → w'.cell? ⟨b, o + a, none⟩ = some (.int .u8 (x.toNat : Int))) := fun w' hg => by
        obtain ⟨b', o', e', _, d'⟩ := (H.out.by_.grown hg) a hal
        simp only [Option.some.injEq, Addr.mk.injEq, and_true] at e'
        obtain ⟨rfl, rfl⟩ := e'
        rw [hx]
        exact d'
      obtain ⟨a1, ha1⟩ : ∃ a1, a1 = a + 1 := ⟨_, rfl⟩
      have E1 : Hid (((a : Int) + 1) = (a1 : Int)) := by show _ = _; omega
      have HA1L : Hid (a1 ≤ m) := by show _ ≤ _; omega
      have HA1 := Lib.hid ha1
      have hamm : a < 9223372036854775807 := by omega
      clear hm hx hml d ha1
      go_enter Tryd.func86, Tryd.ntmps86
      go_wp2
      go_quiet (fail)
      obtain ⟨w1, hw1⟩ : ∃ w1, w1 = w.drewN nq := ⟨_, rfl⟩
      rw [← hw1]
      have HF1 : Hid (After w w1 R (.slice (some ⟨b, o, none⟩) m c) m a 0) := by show After _ _ _ _ _ _ _; rw [hw1]; exact HDR.out nq
      clear hw1 c0 c1 c2 z1 z2
      obtain ⟨c0, c1, c2, z1, z2⟩ := HF1.out.r
      go_upto_region 7 with fail
      rw [show _ = _ from E1.out]
      have HF2 : Hid (After w (w1.setCell ⟨R, 1, none⟩ (.int .i64 (a1 : Int))) R (.slice (some ⟨b, o, none⟩) m c) m a1 0) := HF1.out.at HA1L.out
      obtain ⟨w2, hw2⟩ : ∃ w2, w2 = w1.setCell ⟨R, 1, none⟩ (.int .i64 (a1 : Int)) := ⟨_, rfl⟩
      rw [← hw2] at HF2 ⊢
      clear hw2 c0 c1 c2 z1 z2
      obtain ⟨c0, c1, c2, z1, z2⟩ := HF2.out.r
      have d := HBY.out w2 HF2.out.g
      have e2 : IntKind.i64.wrap (a : Int) = (a : Int) := by rw [IntWalk.i64_in _ (by omega)]
      have e3 : (a1 : Int) - 1 = (a : Int) := by have := HA1.out; omega
      have e4 : (0 : Int) ≤ (a : Int) := by omega
      clear hal hamm hcl hcm ha
      go_quiet (fail)
      go_wp2
      go_ret
      exact ⟨x, a1, 0, rfl, by rw [← HM.out]; exact HF2.out.trans (After.drewN HF2.out.r HF2.out.le _), .inr ⟨rfl, by rw [HND.out]; exact ⟨rfl, HA1.out, rfl⟩⟩, fun h => absurd rfl h⟩
  · have df : (f != 0) = true := by simpa using hf
    have HF := Lib.hid hf
    obtain ⟨c0, c1, c2, z1, z2⟩ := hr
    clear hf hml
    go_enter Tryd.func86, Tryd.ntmps86
    go_wp2
    go_ret
    exact ⟨0, a, f, rfl, by rw [← HM.out]; exact HAF.out, .inl ⟨HF.out, rfl⟩, fun _ => rfl⟩
end Go.Proofs.YtlinpkmfjkcoiaaDoor
namespace Go.Proofs.YtlinpkmfjkcoiaaDoor
open Go Go.RowKit
set_option maxHeartbeats 2000000
set_option linter.unusedVariables false
set_option linter.unusedSimpArgs false
attribute [local go_sem ↓] run_rest
theorem held_below {n : Nat} {a w : World} {A : Prop} (h : Below n a w ∧ A) : Below n a w := h.1
theorem held_on {a w w' : World} {A : Prop} (h : Below a.heap.size a w ∧ A) (hb : Below w.heap.size w w') : Below a.heap.size a w' := h.1.trans (hb.mono h.1.size)
theorem After.blw {w w1 : World} {R : Nat} {sv : Value} {n a : Nat} {f : Int} (h : Rdr w R sv a f) (ha : a ≤ n) (hb : Below w.heap.size w w1) : After w w1 R sv n a f := (After.refl h ha).below hb
theorem In.of_byt {w : World} {R : Nat} {p : Option Addr} {l : List UInt8} (h : Byt w R p l) : In w p l := fun i hi => by
  obtain ⟨b, o, e, _, d⟩ := h i hi
  exact ⟨b, o, e, d⟩
set_option maxRecDepth 100000 in
theorem refNum_any (R : Nat) (p : Option Addr) (c : Nat) (l : List UInt8) (a : Nat) (f lo hi : Int) (w : World) (h : Lies w R p c l a f) :
    Calls Tryd.prog 60 #[.pointer (some ⟨R, 0, none⟩), .int .i64 lo, .int .i64 hi] w (NumIn w R (.slice p l.length c) l a f lo hi) := by
  have H := Lib.hid h
  have hr := h.rd
  have ha := h.le
  have HAF := Lib.hid (After.refl h.rd h.le)
  have hcm : c ≤ 9223372036854775807 := by have := h.mx; unfold maxLen at this; exact this
  have hcl := h.cp
  obtain ⟨sv, hsv⟩ : ∃ sv, sv = Value.slice p l.length c := ⟨_, rfl⟩
  rw [← hsv] at HAF ⊢
  have HSV := Lib.hid hsv
  have hR := h.rd.lt
  have HIN0 : Hid (∀ wx, Below w.heap.size w wx → Calls Tryd.prog 25 #[.slice (restP p a c) (l.length - a) (c - a)] wx (IntIs wx (l.drop a))) := fun wx hx => by
    have := refInt_any (restP p a c) (c - a) (l.drop a) wx ((In.of_byt ((H.out.by_).drop H.out.cp)).below hx) (by rw [List.length_drop]; omega) (by have := H.out.mx; omega)
    rw [List.length_drop] at this
    exact this
  clear h
  by_cases hf : f = 0
  · subst hf
    have HBW : Hid (∀ wx, Below w.heap.size w wx → After w wx R sv l.length a 0) := fun wx hx => by rw [show sv = _ from HSV.out]; exact After.blw H.out.rd H.out.le hx
    obtain ⟨m, hml⟩ : ∃ m, m = l.length := ⟨_, rfl⟩
    have HM := Lib.hid hml
    rw [← hml] at hr ha hcl HIN0 HAF HBW
    obtain ⟨c0, c1, c2, z1, z2⟩ := hr
    have HS : Hid (∀ wx, Below w.heap.size w wx → Below w.heap.size w wx ∧ wx.cell? ⟨R, 0, none⟩ = some (.slice p m c) ∧ wx.cell? ⟨R, 1, none⟩ = some (.int .i64 a)) := fun wx hx => ⟨hx, (hx.cell (p := ⟨R, 0, none⟩) hR).trans c0, (hx.cell (p := ⟨R, 1, none⟩) hR).trans c1⟩
    have v0 : (0 : Int) ≤ (a : Int) := by omega
    have v1 : (a : Int) ≤ (m : Int) := by omega
    cases hnum : num (l.drop a) with
    | bad E =>
      have HIN : Hid (∀ wx, Below w.heap.size w wx → Calls Tryd.prog 25 #[.slice (restP p a c) (m - a) (c - a)] wx (fun e w' => e = .returned (.tuple #[.int .i64 0, .int .i64 0, .int .i64 E]) ∧ E ≠ 0 ∧ Below wx.heap.size wx w')) := fun wx hx => (HIN0.out wx hx).mono fun e w' h => by
        obtain ⟨h1, h2⟩ := h
        rw [hnum] at h2
        exact ⟨h2.1, h2.2, h1⟩
      have HNW : Hid (numW lo hi (l.drop a) = .bad E) := by show _ = _; unfold numW Rd.only; rw [hnum]
      clear hnum hml
      go_enter Tryd.func60, Tryd.ntmps60
      go_wp2
      go_region_held3 (fun wx => Below w.heap.size w wx ∧ wx.cell? ⟨R, 0, none⟩ = some (.slice p m c) ∧ wx.cell? ⟨R, 1, none⟩ = some (.int .i64 a))
        ((refine HS.out _ ?_; first | assumption | exact Below.refl _ _ | exact (Below.refl _ _).drew | exact held_below (by assumption)))
        (first | (go_at_call 25; refine (HIN.out _ (held_below (by assumption))).mono ?_; rintro e w1 ⟨rfl, hE, hb1⟩; have hB1 : Below w.heap.size w w1 := held_on (by assumption) hb1))
      all_goals
        have dE : (E != 0) = true := by simpa using hE
        have HA1 := Lib.hid (HBW.out w1 hB1)
        have HE := Lib.hid hE
        clear hE c0 c1 c2 z1 z2
        go_wp2_with fail
        refine (fault_dem R sv m a 0 E w1 HA1.out.r HA1.out.le).mono ?_
        rintro e w2 ⟨rfl, f2, haf2, _, _, hd3⟩
        have HA2 := Lib.hid (HA1.out.trans haf2)
        obtain rfl := (hd3 rfl rfl)
        clear haf2 hd3
        go_wp2
        go_ret
        exact ⟨0, a, f2, rfl, by unfold I64; omega, by rw [← HM.out]; exact HA2.out, .inr ⟨rfl, by rw [HNW.out]; exact ⟨rfl, HE.out⟩⟩⟩
    | ok n k =>
      have HIN : Hid (∀ wx, Below w.heap.size w wx → Calls Tryd.prog 25 #[.slice (restP p a c) (m - a) (c - a)] wx (fun e w' => e = .returned (.tuple #[.int .i64 n, .int .i64 k, .int .i64 0]) ∧ Below wx.heap.size wx w')) := fun wx hx => (HIN0.out wx hx).mono fun e w' h => by
        obtain ⟨h1, h2⟩ := h
        rw [hnum] at h2
        exact ⟨h2, h1⟩
      obtain ⟨hi64, hk, _⟩ := num_form.back _ n k hnum
      rw [List.length_drop] at hk
      have HAK : Hid (a + k ≤ m) := by show _ ≤ _; omega
      have HI := Lib.hid hi64
      have HNW : Hid (numW lo hi (l.drop a) = if (decide (lo ≤ n) && decide (n ≤ hi)) = true then .ok n k else .bad 31) := by
        show _ = _
        unfold numW Rd.only
        rw [hnum]
      have hak : a + k ≤ 9223372036854775807 := by omega
      clear hnum hml hi64 hk
      go_enter Tryd.func60, Tryd.ntmps60
      go_wp2
      go_region_held3 (fun wx => Below w.heap.size w wx ∧ wx.cell? ⟨R, 0, none⟩ = some (.slice p m c) ∧ wx.cell? ⟨R, 1, none⟩ = some (.int .i64 a))
        ((refine HS.out _ ?_; first | assumption | exact Below.refl _ _ | exact (Below.refl _ _).drew | exact held_below (by assumption)))
        (first | (go_at_call 25; refine (HIN.out _ (held_below (by assumption))).mono ?_; rintro e w1 ⟨rfl, hb1⟩; have hB1 : Below w.heap.size w w1 := held_on (by assumption) hb1))
      all_goals
        have HA1 := Lib.hid (HBW.out w1 hB1)
        clear c0 c1 c2 z1 z2
        obtain ⟨c0, c1, c2, z1, z2⟩ := HA1.out.r
        go_upto_region 8 with fail
        have HF2 : Hid (After w (w1.setCell ⟨R, 1, none⟩ (.int .i64 ((a + k : Nat) : Int))) R sv m (a + k) 0) := HA1.out.at HAK.out
        obtain ⟨w2, hw2⟩ : ∃ w2, w2 = w1.setCell ⟨R, 1, none⟩ (.int .i64 ((a + k : Nat) : Int)) := ⟨_, rfl⟩
        first | rw [← hw2] at HF2 ⊢ | (rw [Int.natCast_add] at hw2; rw [← hw2]; rw [Int.natCast_add, ← hw2] at HF2)
        clear hw2 c0 c1 c2 z1 z2
        by_cases hlo : lo ≤ n
        · have d1 : decide (n < lo) = false := by simp; omega
          by_cases hhi : n ≤ hi
          · have d2 : decide (hi < n) = false := by simp; omega
            have HC : Hid (numW lo hi (l.drop a) = .ok n k) := by show _ = _; rw [HNW.out, decide_eq_true hlo, decide_eq_true hhi]; rfl
            clear hlo hhi
            go_wp2
            go_ret
            exact ⟨n, a + k, 0, rfl, HI.out, by rw [← HM.out]; exact HF2.out, .inr ⟨rfl, by rw [HC.out]; exact ⟨rfl, rfl, rfl⟩⟩⟩
          · have d2 : decide (hi < n) = true := by simp; omega
            have HC : Hid (numW lo hi (l.drop a) = .bad 31) := by show _ = _; rw [HNW.out, decide_eq_false hhi, Bool.and_false]; rfl
            clear hlo hhi
            go_wp2_with fail
            refine (fault_dem R sv m (a + k) 0 31 w2 HF2.out.r HF2.out.le).mono ?_
            rintro e w3 ⟨rfl, f2, haf2, _, _, hd3⟩
            have HA3 := Lib.hid (HF2.out.trans haf2)
            obtain rfl := (hd3 rfl rfl)
            clear haf2 hd3
            go_wp2
            go_ret
            exact ⟨0, a + k, 31, rfl, by unfold I64; omega, by rw [← HM.out]; exact HA3.out, .inr ⟨rfl, by rw [HC.out]; exact ⟨rfl, by decide⟩⟩⟩
        · have d1 : decide (n < lo) = true := by simp; omega
          have HC : Hid (numW lo hi (l.drop a) = .bad 31) := by show _ = _; rw [HNW.out, decide_eq_false hlo, Bool.false_and]; rfl
          clear hlo
          go_wp2_with fail
          refine (fault_dem R sv m (a + k) 0 31 w2 HF2.out.r HF2.out.le).mono ?_
          rintro e w3 ⟨rfl, f2, haf2, _, _, hd3⟩
          have HA3 := Lib.hid (HF2.out.trans haf2)
          obtain rfl := (hd3 rfl rfl)
          clear haf2 hd3
          go_wp2
          go_ret
          exact ⟨0, a + k, 31, rfl, by unfold I64; omega, by rw [← HM.out]; exact HA3.out, .inr ⟨rfl, by rw [HC.out]; exact ⟨rfl, by decide⟩⟩⟩
  · have df : (f != 0) = true := by simpa using hf
    have HF := Lib.hid hf
    obtain ⟨c0, c1, c2, z1, z2⟩ := hr
    clear hf hsv
    go_enter Tryd.func60, Tryd.ntmps60
    go_wp2
    go_ret
    exact ⟨0, a, f, rfl, by unfold I64; omega, HAF.out, .inl ⟨HF.out, rfl⟩⟩
end Go.Proofs.YtlinpkmfjkcoiaaDoor
namespace Go.Proofs.YtlinpkmfjkcoiaaDoor
open Go Go.RowKit
set_option maxHeartbeats 2000000
set_option linter.unusedVariables false
set_option linter.unusedSimpArgs false
theorem run_mid (p : Option Addr) (a h n c : Nat) (ha : a ≤ h) (hh : h ≤ c) (w : World) : (Instr.slice 25 (.slice p n c) (some (.int .i64 a)) (some (.int .i64 h)) none).run Tryd.prog w = .ok (.slice (restP p a c) (h - a) (c - a)) w := by
  have hs : (sizeOf 5).run Tryd.prog w = .ok 1 w := by kernel_rfl
  have he : Tryd.prog.elem 25 = 5 := by kernel_rfl
  rw [run_slice_lh w 25 p n c (by rw [he]; exact Tryd.underlying25) .i64 .i64 a h (by omega) (by omega) (by omega), he, hs]
  simp [Result.andThen, sliced, restP]
attribute [local go_sem ↓] run_mid
set_option maxRecDepth 100000 in
theorem refText_any (R : Nat) (p : Option Addr) (c : Nat) (l : List UInt8) (a : Nat) (f lo hi : Int) (hlo : 0 ≤ lo) (w : World) (h : Lies w R p c l a f) :
    Calls Tryd.prog 58 #[.pointer (some ⟨R, 0, none⟩), .int .i64 lo, .int .i64 hi] w (Txt w R (.slice p l.length c) l a f lo hi) := by
  have H := Lib.hid h
  have hn := refNum_any R p c l a f lo hi w h
  have hcm : c ≤ 9223372036854775807 := by have := h.mx; unfold maxLen at this; exact this
  have hcl := h.cp
  obtain ⟨m, hml⟩ : ∃ m, m = l.length := ⟨_, rfl⟩
  have HM := Lib.hid hml
  rw [← hml] at hn hcl ⊢
  clear h hml
  go_enter Tryd.func58, Tryd.ntmps58
  go_wp2_with fail
  refine hn.mono ?_
  rintro e w1 ⟨n, a1, f1, rfl, hi64, haf, hca⟩
  rw [← HM.out] at haf
  have HA := Lib.hid haf
  have HC := Lib.hid hca
  have HL1 : Hid (Lies w1 R p c l a1 f1) := H.out.after (by rw [← HM.out]; exact haf)
  have hpos : f1 = 0 → lo ≤ n := by
    intro h0
    rcases HC.out with ⟨h1, h2⟩ | ⟨h1, h2⟩
    · exact absurd (h2.symm.trans h0) h1
    · cases hr : numW lo hi (l.drop a) with
      | bad E => rw [hr] at h2; exact absurd (h2.1.symm.trans h0) h2.2
      | ok v k =>
        rw [hr] at h2
        obtain ⟨_, _, rfl⟩ := h2
        unfold numW Rd.only at hr
        split at hr
        · cases hr
        · split at hr
          · rename_i hc
            simp only [Res.ok.injEq] at hr
            obtain ⟨rfl, rfl⟩ := hr
            simp only [Bool.and_eq_true, decide_eq_true_eq] at hc
            exact hc.1
          · cases hr
  obtain ⟨c0, c1, c2, z1, z2⟩ := haf.r
  have ha1 := haf.le
  clear hn haf hca
  by_cases hf : f1 = 0
  · have hp := hpos hf
    have HF := Lib.hid hf
    subst hf
    obtain ⟨k, rfl⟩ : ∃ k : Nat, n = k := ⟨n.toNat, by omega⟩
    have d0 : ((0 : Int) != 0) = false := rfl
    clear hpos hp
    have hi2 := hi64.2
    clear hi64
    have e3 : IntKind.i64.wrap ((m : Int) - (a1 : Int)) = (m : Int) - (a1 : Int) := by rw [IntWalk.i64_in _ (by omega)]
    by_cases hk : k ≤ m - a1
    · have dk : decide ((m : Int) - (a1 : Int) < (k : Int)) = false := by simp; omega
      obtain ⟨a2, ha2⟩ : ∃ a2, a2 = a1 + k := ⟨_, rfl⟩
      have HA2 := Lib.hid ha2
      have HLE : Hid (a2 ≤ m) := by show _ ≤ _; omega
      have E1 : Hid ((a1 : Int) + (k : Int) = (a2 : Int)) := by show _ = _; omega
      have hadd : a1 + k ≤ 9223372036854775807 := by omega
      clear ha2 hk
      go_wp2
      go_quiet (fail)
      go_wp2_with fail
      obtain ⟨w2, hw2⟩ : ∃ w2, w2 = w1.drewN nq := ⟨_, rfl⟩
      have HF2 : Hid (After w w2 R (.slice p m c) m a1 0) := by show After _ _ _ _ _ _ _; rw [hw2]; exact HA.out.trans (After.drewN HA.out.r HA.out.le nq)
      rw [← hw2]
      clear hw2 c0 c1 c2 z1 z2 e3 dk
      obtain ⟨c0, c1, c2, z1, z2⟩ := HF2.out.r
      go_upto_region 8 with fail
      rw [show _ = _ from E1.out]
      have HF3 : Hid (After w (w2.setCell ⟨R, 1, none⟩ (.int .i64 (a2 : Int))) R (.slice p m c) m a2 0) := HF2.out.at HLE.out
      obtain ⟨w3, hw3⟩ : ∃ w3, w3 = w2.setCell ⟨R, 1, none⟩ (.int .i64 (a2 : Int)) := ⟨_, rfl⟩
      rw [← hw3] at HF3 ⊢
      clear hw3 c0 c1 c2 z1 z2
      obtain ⟨c0, c1, c2, z1, z2⟩ := HF3.out.r
      have e1 : (a2 : Int) - (k : Int) = (a1 : Int) := by have := HA2.out; omega
      have e2 : IntKind.i64.wrap (a1 : Int) = (a1 : Int) := by rw [IntWalk.i64_in _ (by omega)]
      have hYL : Hid (((l.drop a1).take k).length = k) := by show _ = _; rw [List.length_take, List.length_drop]; have := HA2.out; have := HLE.out; have := HM.out; omega
      have m1 : a1 ≤ a2 := by have := HA2.out; omega
      have m2 : a2 ≤ c := by have := HLE.out; omega
      have m3 : a2 - a1 = k := by have := HA2.out; omega
      have HY3 : ∀ n, Byt (w3.drewN n) R (restP p a1 c) ((l.drop a1).take k) := fun n => (((H.out.by_).drop H.out.cp).take k).grown (Lib.grownBy_trans HF3.out.g (grown_drewN w3 n _))
      have hstr : ∀ n, (convert 25 9 (.slice (restP p a1 c) k (c - a1))).run Tryd.prog (w3.drewN n) = .ok (.string ⟨((l.drop a1).take k).toArray⟩) (w3.drewN n) := fun n => by
        have := run_str (HY3 n) (c - a1)
        rw [hYL.out] at this
        exact this
      clear HY3 hadd hcl hcm ha1 hi2
      go_quiet (fail)
      go_wp2
      go_ret
      refine ⟨(l.drop a1).take k, a2, 0, rfl, ?_, by rw [← HM.out]; exact HF3.out.trans (After.drewN HF3.out.r HF3.out.le _), HC.out.andThen (g := fun n : Int => takeN n.toNat) (.inr ⟨rfl, ?_⟩)⟩
      · rw [hYL.out]
        have h1 := H.out.mx
        omega
      · rw [Int.toNat_natCast]
        unfold takeN
        rw [List.length_drop, if_pos (by have := HM.out; have := HLE.out; omega)]
        exact ⟨rfl, HA2.out, rfl⟩
    · have dk : decide ((m : Int) - (a1 : Int) < (k : Int)) = true := by simp; omega
      have HND : Hid (takeN k (l.drop a1) = .bad 30) := by
        show _ = _
        unfold takeN
        rw [List.length_drop, if_neg (by have := HM.out; omega)]
      clear hk
      go_wp2
      go_quiet (fail)
      go_wp2_with fail
      obtain ⟨w2, hw2⟩ : ∃ w2, w2 = w1.drewN nq := ⟨_, rfl⟩
      have HF2 : Hid (After w w2 R (.slice p m c) m a1 0) := by show After _ _ _ _ _ _ _; rw [hw2]; exact HA.out.trans (After.drewN HA.out.r HA.out.le nq)
      rw [← hw2]
      clear hw2 c0 c1 c2 z1 z2 e3 dk
      refine (fault_dem R _ m a1 0 30 w2 HF2.out.r HF2.out.le).mono ?_
      rintro e w3 ⟨rfl, f2, haf2, _, _, hd3⟩
      have HA3 := Lib.hid (HF2.out.trans haf2)
      obtain rfl := (hd3 rfl rfl)
      clear haf2 hd3
      go_wp2
      go_ret
      refine ⟨[], a1, 30, rfl, by simp, by rw [← HM.out]; exact HA3.out, HC.out.andThen (g := fun n : Int => takeN n.toNat) (.inr ⟨rfl, ?_⟩)⟩
      rw [Int.toNat_natCast, HND.out]
      exact ⟨rfl, by decide⟩
  · have d0 : (f1 != 0) = true := by simpa using hf
    have HF := Lib.hid hf
    clear hf hpos hi64
    go_wp2
    go_ret
    exact ⟨[], a1, f1, rfl, by simp, by rw [← HM.out]; exact HA.out, HC.out.andThen (g := fun n : Int => takeN n.toNat) (.inl ⟨HF.out, rfl⟩)⟩
end Go.Proofs.YtlinpkmfjkcoiaaDoor
namespace Go.Proofs.YtlinpkmfjkcoiaaDoor
open Go Go.RowKit
set_option maxHeartbeats 4000000
set_option linter.unusedVariables false
set_option linter.unusedSimpArgs false
theorem numW_full (l : List UInt8) : numW (-9223372036854775808) 9223372036854775807 l = num l := by
  unfold numW Rd.only
  cases h : num l with
  | bad E => rfl
  | ok n k =>
    obtain ⟨⟨h1, h2⟩, _, _⟩ := num_form.back l n k h
    simp only
    rw [if_pos (by simp [h1, h2])]
set_option maxRecDepth 100000 in
theorem refVal_any (R : Nat) (p : Option Addr) (c : Nat) (l : List UInt8) (a : Nat) (f : Int) (w : World) (h : Lies w R p c l a f) :
    Calls Tryd.prog 61 #[.pointer (some ⟨R, 0, none⟩)] w (Val w R (.slice p l.length c) l a f) := by
  have H := Lib.hid h
  have hR := h.rd.lt
  have HX : Hid (∀ wx a' f', Lies wx R p c l a' f' → Calls Tryd.prog 86 #[.pointer (some ⟨R, 0, none⟩)] wx (One wx R (.slice p l.length c) l a' f')) := fun wx a' f' h0 => refOne_any R p c l a' f' wx h0
  have hA0 := (After.refl h.rd h.le).alloc (Obj.cells #[.int .i64 0, .int .i64 0, .string ⟨#[]⟩, .bool false] 96)
  clear h
  go_enter Tryd.func61, Tryd.ntmps61
  go_wp2_with fail
  have HA0 := Lib.hid hA0
  have HL0 := Lib.hid (H.out.after hA0)
  have F0 : Hid (Four (w.alloc (Obj.cells #[.int .i64 0, .int .i64 0, .string ⟨#[]⟩, .bool false] 96)) w.heap.size ⟨0, 0, ⟨#[]⟩, false⟩) := Four.new w ⟨0, 0, ⟨#[]⟩, false⟩
  have S0 : Hid (w.heap.size < (w.alloc (Obj.cells #[.int .i64 0, .int .i64 0, .string ⟨#[]⟩, .bool false] 96)).heap.size) := by show _ < _; simp
  obtain ⟨w0, hw0⟩ : ∃ x, x = w.alloc (Obj.cells #[.int .i64 0, .int .i64 0, .string ⟨#[]⟩, .bool false] 96) := ⟨_, rfl⟩
  rw [← hw0] at HA0 HL0 S0 F0 ⊢
  obtain ⟨g0, hg0⟩ : ∃ g0, g0 = w.heap.size := ⟨_, rfl⟩
  have HG0 := Lib.hid hg0
  rw [← hg0] at F0 S0 hR ⊢
  refine (HX.out w0 a f HL0.out).mono ?_
  rintro e w1 ⟨x, a1, f1, rfl, haf1, hca1, hno1⟩
  have hg1 := haf1.g
  have HA1 := Lib.hid (HA0.out.trans haf1)
  have HC1 := Lib.hid hca1
  have HX8 : Hid ((x.toNat : Int) < 256) := by have := x.toNat_lt; show _ < _; omega
  have F1 := Lib.hid (F0.out.keeps hg1 (by omega))
  have s1 := Nat.lt_of_lt_of_le S0.out hg1.size
  have S1 : Hid (g0 < w1.heap.size) := s1
  have b2 := haf1.r.c2
  clear haf1 hca1 hg1 hw0 hA0 hg0 s1 hno1
  have hx8 := HX8.out
  obtain ⟨g1, hg1⟩ : ∃ g1, g1 = w1.heap.size := ⟨_, rfl⟩
  have HG1 := Lib.hid hg1
  have q0 : w.heap.size ≤ g0 := by have := HG0.out; omega
  have q1 : w.heap.size ≤ g1 := by have := HG1.out; have := S1.out; omega
  have q2 : R < w.heap.size := by have := HG0.out; omega
  have Q0 := Lib.hid q0
  have Q1 := Lib.hid q1
  have Q2 := Lib.hid q2
  by_cases hf : f1 = 0
  · have df : (f1 != 0) = false := by simpa using hf
    have HF := Lib.hid hf
    have hsR : g1 ≠ R := by have := HA1.out.r.lt; omega
    have hs0 : g1 ≠ g0 := by have := S1.out; omega
    have hs0' : g0 ≠ g1 := Ne.symm hs0
    have hsR0 : g0 ≠ R := by omega
    clear q0 q1 q2 hf
    have HA2 : Hid (After w (w1.alloc (Obj.cells #[.int .i64 (x.toNat : Int), .int .i64 0, .string ⟨#[]⟩, .bool false] 96)) R (.slice p l.length c) l.length a1 f1) := HA1.out.alloc _
    have F1' : Hid (Four (w1.alloc (Obj.cells #[.int .i64 (x.toNat : Int), .int .i64 0, .string ⟨#[]⟩, .bool false] 96)) g0 ⟨0, 0, ⟨#[]⟩, false⟩) := F1.out.below ((Below.refl _ _).alloc (Nat.le_refl _) _)
    have F2 : Hid (Four (w1.alloc (Obj.cells #[.int .i64 (x.toNat : Int), .int .i64 0, .string ⟨#[]⟩, .bool false] 96)) g1 ⟨x.toNat, 0, ⟨#[]⟩, false⟩) := by show Four _ _ _; rw [hg1]; exact Four.new w1 ⟨x.toNat, 0, ⟨#[]⟩, false⟩
    go_upto_region 5 with fail
    obtain ⟨w2, hw2⟩ : ∃ w2, w2 = w1.alloc (Obj.cells #[.int .i64 (x.toNat : Int), .int .i64 0, .string ⟨#[]⟩, .bool false] 96) := ⟨_, rfl⟩
    rw [← hw2] at HA2 F1' F2 ⊢
    rw [← hg1]
    clear hw2 hg1 b2
    obtain ⟨y0, y1, y2, y3, yz0, yz1, yz2, yz3⟩ := F2.out
    by_cases h1 : x.toNat = 1
    · have d1 : ((x.toNat : Int) == 1) = true := by simp; omega
      have H1 := Lib.hid h1
      have HB1 : Hid (Came a a1 f f1 (byteW 1 3 (l.drop a)) (· = x)) := HC1.out.only (fun b => decide (1 ≤ b.toNat) && decide (b.toNat ≤ 3)) (fun _ => rfl) (fun _ => rfl) (fun _ h => by simp [h1] at h)
      clear h1
      go_wp2_with fail
      have hn := refNum_any R p c l a1 f1 (-9223372036854775808) 9223372036854775807 w2 (H.out.after HA2.out)
      refine hn.mono ?_
      rintro e w3 ⟨n, a2, f2, rfl, hi64, haf3, hca3⟩
      rw [numW_full] at hca3
      have F1'' := Lib.hid (F1'.out.keeps haf3.g hsR0)
      have F2'' := Lib.hid (F2.out.keeps haf3.g hsR)
      have HA3 := Lib.hid (HA2.out.trans haf3)
      have HC3 := Lib.hid hca3
      clear y0 y1 y2 y3 yz0 yz1 yz2 yz3 hn haf3 hca3
      obtain ⟨y0, y1, y2, y3, yz0, yz1, yz2, yz3⟩ := F2''.out
      obtain ⟨x0, x1, x2, x3, xz0, xz1, xz2, xz3⟩ := F1''.out
      go_wp2
      refine bodyPost_ret (v := agg4 ⟨x.toNat, n, ⟨#[]⟩, false⟩) (by simp [results, Tryd.results61, go_sem, y0, y1, y2, y3, x0, x1, x2, x3]) rfl ?_
      have q0 := Q0.out
      have q1 := Q1.out
      have q2 := Q2.out
      refine ⟨⟨x.toNat, n, ⟨#[]⟩, false⟩, a2, f2, rfl, by repeat (first | exact HA3.out | refine After.set ?_ (by assumption) (by assumption) _ _), HB1.out.andThen (g := restR) ?_⟩
      unfold restR
      rw [if_pos H1.out]
      have := HC3.out.map (g := fun n => (⟨1, n, ⟨#[]⟩, false⟩ : V4))
      rw [H1.out]
      exact this
    · have d1 : ((x.toNat : Int) == 1) = false := by simp; omega
      have H1 := Lib.hid h1
      by_cases h2 : x.toNat = 2
      · have d2 : ((x.toNat : Int) == 2) = true := by simp; omega
        have H2 := Lib.hid h2
        have HB1 : Hid (Came a a1 f f1 (byteW 1 3 (l.drop a)) (· = x)) := HC1.out.only (fun b => decide (1 ≤ b.toNat) && decide (b.toNat ≤ 3)) (fun _ => rfl) (fun _ => rfl) (fun _ h => by simp [h2] at h)
        clear h1 h2
        go_wp2_with fail
        have hn := refText_any R p c l a1 f1 0 256 (Int.le_refl 0) w2 (H.out.after HA2.out)
        refine hn.mono ?_
        rintro e w3 ⟨s, a2, f2, rfl, hsz, haf3, hca3⟩
        have F1'' := Lib.hid (F1'.out.keeps haf3.g hsR0)
        have F2'' := Lib.hid (F2.out.keeps haf3.g hsR)
        have HA3 := Lib.hid (HA2.out.trans haf3)
        have HC3 := Lib.hid hca3
        clear y0 y1 y2 y3 yz0 yz1 yz2 yz3 hn haf3 hca3
        obtain ⟨y0, y1, y2, y3, yz0, yz1, yz2, yz3⟩ := F2''.out
        obtain ⟨x0, x1, x2, x3, xz0, xz1, xz2, xz3⟩ := F1''.out
        go_wp2
        refine bodyPost_ret (v := agg4 ⟨x.toNat, 0, ⟨s.toArray⟩, false⟩) (by simp [results, Tryd.results61, go_sem, y0, y1, y2, y3, x0, x1, x2, x3]) rfl ?_
        have q0 := Q0.out
        have q1 := Q1.out
        have q2 := Q2.out
        refine ⟨⟨x.toNat, 0, ⟨s.toArray⟩, false⟩, a2, f2, rfl, by repeat (first | exact HA3.out | refine After.set ?_ (by assumption) (by assumption) _ _), HB1.out.andThen (g := restR) ?_⟩
        unfold restR
        rw [if_neg H1.out, if_pos H2.out]
        have := HC3.out.map (g := fun l => (⟨2, 0, ⟨l.toArray⟩, false⟩ : V4))
        rw [H2.out]
        exact this
      · have d2 : ((x.toNat : Int) == 2) = false := by simp; omega
        have H2 := Lib.hid h2
        by_cases h3 : x.toNat = 3
        · have d3 : ((x.toNat : Int) == 3) = true := by simp; omega
          have H3 := Lib.hid h3
          have HB1 : Hid (Came a a1 f f1 (byteW 1 3 (l.drop a)) (· = x)) := HC1.out.only (fun b => decide (1 ≤ b.toNat) && decide (b.toNat ≤ 3)) (fun _ => rfl) (fun _ => rfl) (fun _ h => by simp [h3] at h)
          clear h1 h2 h3
          go_wp2_with fail
          have hn := HX.out w2 a1 f1 (H.out.after HA2.out)
          refine hn.mono ?_
          rintro e w3 ⟨y, a2, f2, rfl, haf3, hca3, hno3⟩
          have F1'' := Lib.hid (F1'.out.keeps haf3.g hsR0)
          have F2'' := Lib.hid (F2.out.keeps haf3.g hsR)
          have HA3 := Lib.hid (HA2.out.trans haf3)
          have HC3 := Lib.hid hca3
          clear y0 y1 y2 y3 yz0 yz1 yz2 yz3 hn haf3 hca3 hno3
          have HEY : Hid ((((y.toNat : Int) == 1) : Bool) = (y.toNat == 1)) := by
            show _ = _
            rw [Bool.eq_iff_iff]
            simp
            omega
          by_cases hy : 1 < y.toNat
          · have dy : decide ((1 : Int) < (y.toNat : Int)) = true := by simp; omega
            have HY := Lib.hid hy
            clear hy
            go_wp2_with fail
            refine (fault_dem R _ l.length a2 f2 31 w3 HA3.out.r HA3.out.le).mono ?_
            rintro e w4 ⟨rfl, f3, haf4, hd1, _, hd3⟩
            have HA4 := Lib.hid (HA3.out.trans haf4)
            have HB3 : Hid (Came a1 a2 f1 f3 (byteW 0 1 (l.drop a1)) (· = y)) := HC3.out.only (fun b => decide (0 ≤ b.toNat) && decide (b.toNat ≤ 1)) hd1 (fun h => by have := HY.out; simp at h; omega) (fun h _ => hd3 h rfl)
            have F1x := Lib.hid (F1''.out.keeps haf4.g hsR0)
            have F2x := Lib.hid (F2''.out.keeps haf4.g hsR)
            clear haf4 hd1 hd3
            obtain ⟨y0, y1, y2, y3, yz0, yz1, yz2, yz3⟩ := F2x.out
            obtain ⟨x0, x1, x2, x3, xz0, xz1, xz2, xz3⟩ := F1x.out
            go_wp2
            refine bodyPost_ret (v := agg4 ⟨x.toNat, 0, ⟨#[]⟩, (y.toNat : Int) == 1⟩) (by simp [results, Tryd.results61, go_sem, y0, y1, y2, y3, x0, x1, x2, x3]) rfl ?_
            have q0 := Q0.out
            have q1 := Q1.out
            have q2 := Q2.out
            refine ⟨⟨x.toNat, 0, ⟨#[]⟩, (y.toNat : Int) == 1⟩, a2, f3, rfl, by repeat (first | exact HA4.out | refine After.set ?_ (by assumption) (by assumption) _ _), HB1.out.andThen (g := restR) ?_⟩
            unfold restR
            rw [if_neg H1.out, if_neg H2.out]
            have := HB3.out.map (g := fun x => (⟨3, 0, ⟨#[]⟩, x.toNat == 1⟩ : V4))
            rw [H3.out, HEY.out]
            exact this
          · have dy : decide ((1 : Int) < (y.toNat : Int)) = false := by simp; omega
            have HB3 : Hid (Came a1 a2 f1 f2 (byteW 0 1 (l.drop a1)) (· = y)) := HC3.out.only (fun b => decide (0 ≤ b.toNat) && decide (b.toNat ≤ 1)) (fun _ => rfl) (fun _ => rfl) (fun _ h => by simp at h; omega)
            clear hy
            obtain ⟨y0, y1, y2, y3, yz0, yz1, yz2, yz3⟩ := F2''.out
            obtain ⟨x0, x1, x2, x3, xz0, xz1, xz2, xz3⟩ := F1''.out
            go_wp2
            refine bodyPost_ret (v := agg4 ⟨x.toNat, 0, ⟨#[]⟩, (y.toNat : Int) == 1⟩) (by simp [results, Tryd.results61, go_sem, y0, y1, y2, y3, x0, x1, x2, x3]) rfl ?_
            have q0 := Q0.out
            have q1 := Q1.out
            have q2 := Q2.out
            refine ⟨⟨x.toNat, 0, ⟨#[]⟩, (y.toNat : Int) == 1⟩, a2, f2, rfl, by repeat (first | exact HA3.out | refine After.set ?_ (by assumption) (by assumption) _ _), HB1.out.andThen (g := restR) ?_⟩
            unfold restR
            rw [if_neg H1.out, if_neg H2.out]
            have := HB3.out.map (g := fun x => (⟨3, 0, ⟨#[]⟩, x.toNat == 1⟩ : V4))
            rw [H3.out, HEY.out]
            exact this
        · have d3 : ((x.toNat : Int) == 3) = false := by simp; omega
          have HBD : Hid ((decide (1 ≤ x.toNat) && decide (x.toNat ≤ 3)) = false) := by
            show _ = _
            rw [Bool.and_eq_false_iff]
            simp
            omega
          clear h1 h2 h3
          go_wp2_with fail
          refine (fault_dem R _ l.length a1 f1 31 w2 HA2.out.r HA2.out.le).mono ?_
          rintro e w4 ⟨rfl, f3, haf4, hd1, _, hd3⟩
          have HA4 := Lib.hid (HA2.out.trans haf4)
          have HB3 : Hid (Came a a1 f f3 (byteW 1 3 (l.drop a)) (· = x)) := HC1.out.only (fun b => decide (1 ≤ b.toNat) && decide (b.toNat ≤ 3)) hd1 (fun h => by rw [HBD.out] at h; cases h) (fun h _ => hd3 h rfl)
          have HF3 : Hid (f3 = 31) := hd3 HF.out rfl
          have F1x := Lib.hid (F1'.out.keeps haf4.g hsR0)
          have F2x := Lib.hid (F2.out.keeps haf4.g hsR)
          clear haf4 hd1 hd3 y0 y1 y2 y3 yz0 yz1 yz2 yz3
          obtain ⟨y0, y1, y2, y3, yz0, yz1, yz2, yz3⟩ := F2x.out
          obtain ⟨x0, x1, x2, x3, xz0, xz1, xz2, xz3⟩ := F1x.out
          go_wp2
          refine bodyPost_ret (v := agg4 ⟨x.toNat, 0, ⟨#[]⟩, false⟩) (by simp [results, Tryd.results61, go_sem, y0, y1, y2, y3, x0, x1, x2, x3]) rfl ?_
          have q0 := Q0.out
          have q1 := Q1.out
          have q2 := Q2.out
          exact ⟨⟨x.toNat, 0, ⟨#[]⟩, false⟩, a1, f3, rfl, by repeat (first | exact HA4.out | refine After.set ?_ (by assumption) (by assumption) _ _), HB3.out.andThen (g := restR) (.inl ⟨by rw [HF3.out]; decide, rfl⟩)⟩
  · have df : (f1 != 0) = true := by simpa using hf
    have HB1 : Hid (Came a a1 f f1 (byteW 1 3 (l.drop a)) (· = x)) := HC1.out.only (fun b => decide (1 ≤ b.toNat) && decide (b.toNat ≤ 3)) (fun _ => rfl) (fun _ => rfl) (fun h => absurd h hf)
    have HF := Lib.hid hf
    clear hf hg1 q0 q1 q2
    obtain ⟨x0, x1, x2, x3, xz0, xz1, xz2, xz3⟩ := F1.out
    go_wp2
    refine bodyPost_ret (v := agg4 ⟨0, 0, ⟨#[]⟩, false⟩) (by simp [results, Tryd.results61, go_sem, x0, x1, x2, x3]) rfl ?_
    have q0 := Q0.out
    have q2 := Q2.out
    exact ⟨⟨0, 0, ⟨#[]⟩, false⟩, a1, f1, rfl, by repeat (first | exact HA1.out | refine After.set ?_ (by assumption) (by assumption) _ _), HB1.out.andThen (g := restR) (.inl ⟨HF.out, rfl⟩)⟩
end Go.Proofs.YtlinpkmfjkcoiaaDoor
namespace Go.Proofs.YtlinpkmfjkcoiaaDoor
open Go Go.RowKit
set_option maxHeartbeats 8000000
set_option linter.unusedVariables false
set_option linter.unusedSimpArgs false
theorem Rdr.new102 (w : World) (p : Option Addr) (n c : Nat) : Rdr (w.alloc (.cells #[.slice p n c, .int .i64 0, .int .i64 0] 102)) w.heap.size (.slice p n c) 0 0 := by
  refine ⟨?_, ?_, ?_, ?_, ?_⟩ <;> simp [go_sem]
/-- the head of the loop over the values, counted upwards -/
structure RefLoop (w : World) (R : Nat) (sv : Value) (l : List UInt8) (g0 g1 : Nat) (s : ByteArray) (tm : Int) (a4 : Nat) (f4 n0 : Int) (wr : World) (j : Nat) (done : List V4) (p' : Option Addr) (c' a' : Nat) (f' : Int) : Prop where
  af : After w wr R sv l.length a' f'
  t0 : Three wr g0 ⟨#[]⟩ 0 (.slice none 0 0)
  t1 : Three wr g1 s tm (.slice p' done.length c')
  own : wr.ownsRow (g1 + 1) 96 4 (.slice p' done.length c') done.length (cells4 done)
  st : ValsSt l a4 f4 n0 done (n0 - j) a' f'
  nj : f' = 0 → (j : Int) ≤ n0
set_option maxRecDepth 100000 in
theorem refDecode_any (p : Option Addr) (c : Nat) (l : List UInt8) (w : World) (h : In w p l) (hc : l.length ≤ c) (hm : c ≤ maxLen) : Calls Tryd.prog 29 #[.slice p l.length c] w (DecIs w l) := by
  obtain ⟨i0, hi, hz0, hz1, hz2⟩ := info_parts infoVal
  have hA : Below w.heap.size w (w.alloc (.cells #[.string ⟨#[]⟩, .int .i64 0, .slice none 0 0] 24)) := (Below.refl _ _).alloc (Nat.le_refl _) _
  have hb1 : Below w.heap.size w ((w.alloc (.cells #[.string ⟨#[]⟩, .int .i64 0, .slice none 0 0] 24)).alloc (.cells #[.slice p l.length c, .int .i64 0, .int .i64 0] 102)) := hA.alloc (by simp) _
  have hr0 := (Rdr.new102 (w.alloc (.cells #[.string ⟨#[]⟩, .int .i64 0, .slice none 0 0] 24)) p l.length c)
  simp only [World.size_alloc] at hr0
  obtain ⟨wb, hwb⟩ : ∃ x, x = ((w.alloc (.cells #[.string ⟨#[]⟩, .int .i64 0, .slice none 0 0] 24)).alloc (.cells #[.slice p l.length c, .int .i64 0, .int .i64 0] 102)) := ⟨_, rfl⟩
  have hsb : wb.heap.size = w.heap.size + 2 := by rw [hwb]; simp
  have T0b : Three wb w.heap.size ⟨#[]⟩ 0 (.slice none 0 0) := by
    rw [hwb]
    exact (Three.new w ⟨#[]⟩ 0 none 0 0).below ((Below.refl _ _).alloc (Nat.le_refl _) _)
  rw [← hwb] at hb1 hr0
  have hL : Lies wb (w.heap.size + 1) p c l 0 0 := ⟨hr0, h.byt hb1 (by omega), Nat.zero_le _, hc, hm⟩
  obtain ⟨w0, hw0⟩ : ∃ x, x = wb.alloc (.cells #[.string ⟨#[]⟩, .int .i64 0, .slice none 0 0] 24) := ⟨_, rfl⟩
  have T0 : Hid (Three w0 w.heap.size ⟨#[]⟩ 0 (.slice none 0 0)) := by
    show Three _ _ _ _ _
    rw [hw0]
    exact T0b.below ((Below.refl _ _).alloc (Nat.le_refl _) _)
  have T1 : Hid (Three w0 (w.heap.size + 2) ⟨#[]⟩ 0 (.slice none 0 0)) := by
    show Three _ _ _ _ _
    rw [hw0, ← hsb]
    exact Three.new wb ⟨#[]⟩ 0 none 0 0
  have HA0 : Hid (After wb w0 (w.heap.size + 1) (.slice p l.length c) l.length 0 0) := by
    show After _ _ _ _ _ _ _
    rw [hw0]
    exact (After.refl hL.rd hL.le).alloc _
  have HB0 : Hid (Below w.heap.size w wb) := hb1
  have HL := Lib.hid hL
  have HW : Hid (w0 = (((w.alloc (.cells #[.string ⟨#[]⟩, .int .i64 0, .slice none 0 0] 24)).alloc (.cells #[.slice p l.length c, .int .i64 0, .int .i64 0] 102)).alloc (.cells #[.string ⟨#[]⟩, .int .i64 0, .slice none 0 0] 24))) := by show _ = _; rw [hw0, hwb]
  have SB : Hid (wb.heap.size = w.heap.size + 2) := hsb
  obtain ⟨B, hB⟩ : ∃ B, B = w.heap.size := ⟨_, rfl⟩
  have HB := Lib.hid hB
  rw [← hB] at HL T0 T1 SB HA0
  obtain ⟨R, hR⟩ : ∃ R, R = B + 1 := ⟨_, rfl⟩
  obtain ⟨g1, hg1⟩ : ∃ g1, g1 = B + 2 := ⟨_, rfl⟩
  rw [← hR] at HL HA0
  rw [← hg1] at T1 SB
  have HRE := Lib.hid hR
  have HGE := Lib.hid hg1
  have HRL : Hid (R < wb.heap.size) := by have := SB.out; show _ < _; omega
  have HBR : Hid (B < wb.heap.size) := by have := SB.out; show _ < _; omega
  have Q1 : Hid (wb.heap.size ≤ g1) := by have := SB.out; show _ ≤ _; omega
  have r0 : B ≠ R := by omega
  have r1 : g1 ≠ R := by omega
  have r01 : B ≠ g1 := by omega
  have r10 : g1 ≠ B := by omega
  have RG1 : Hid (R < g1 + 1) := by show _ < _; omega
  have RG01 : Hid (B < g1 + 1) := by show _ < _; omega
  have RG2 : Hid (wb.heap.size ≤ g1 + 1) := by have := SB.out; show _ ≤ _; omega
  have RG3 : Hid (w.heap.size ≤ g1 + 1) := by show _ ≤ _; omega
  have HT : Hid (∀ wx a' f' lo hi, 0 ≤ lo → Lies wx R p c l a' f' → Calls Tryd.prog 58 #[.pointer (some ⟨R, 0, none⟩), .int .i64 lo, .int .i64 hi] wx (Txt wx R (.slice p l.length c) l a' f' lo hi)) := fun wx a' f' lo hi h0 h1 => refText_any R p c l a' f' lo hi h0 wx h1
  have HN : Hid (∀ wx a' f' lo hi, Lies wx R p c l a' f' → Calls Tryd.prog 60 #[.pointer (some ⟨R, 0, none⟩), .int .i64 lo, .int .i64 hi] wx (NumIn wx R (.slice p l.length c) l a' f' lo hi)) := fun wx a' f' lo hi h1 => refNum_any R p c l a' f' lo hi wx h1
  have HV : Hid (∀ wx a' f', Lies wx R p c l a' f' → Calls Tryd.prog 61 #[.pointer (some ⟨R, 0, none⟩)] wx (Val wx R (.slice p l.length c) l a' f')) := fun wx a' f' h1 => refVal_any R p c l a' f' wx h1
  clear h hL hb1 hA hw0 hwb hr0 hc hm T0b hsb
  go_enter Tryd.func29, Tryd.ntmps29
  go_upto_region 3 with fail
  rw [← HW.out, ← hB]
  first | rw [← hg1, ← hR] | rw [← hR]
  clear hB hR hg1
  go_wp2_with fail
  refine (HT.out w0 0 0 1 32 (by omega) (HL.out.after HA0.out)).mono ?_
  rintro e w1 ⟨s, a1, f1, rfl, hsz, haf1, hca1⟩
  have HA1 := Lib.hid (HA0.out.trans haf1)
  have HC1 := Lib.hid hca1
  have T0' := Lib.hid (T0.out.keeps haf1.g r0)
  have T1' := Lib.hid (T1.out.keeps haf1.g r1)
  clear haf1 hca1
  obtain ⟨y0, y1, y2, yz0, yz1, yz2⟩ := T1'.out
  go_upto_region 4 with fail
  have HA2 := Lib.hid (HA1.out.set Q1.out HRL.out 0 (.string ⟨s.toArray⟩))
  have T0a := Lib.hid (T0'.out.other (u := .string ⟨s.toArray⟩) (o := 0) r01)
  have T1a := Lib.hid (T1'.out.ty ⟨s.toArray⟩)
  clear y0 y1 y2 yz0 yz1 yz2
  obtain ⟨w2, hw2⟩ : ∃ x, x = w1.setCell ⟨g1, 0, none⟩ (.string ⟨s.toArray⟩) := ⟨_, rfl⟩
  rw [← hw2] at HA2 T0a T1a ⊢
  clear hw2
  obtain ⟨y0, y1, y2, yz0, yz1, yz2⟩ := T1a.out
  obtain ⟨x0, x1, x2, xz1, xz2⟩ := HA2.out.r
  have hcase : (f1 ≠ 0) ∨ (f1 = 0 ∧ nameL s = true) ∨ (f1 = 0 ∧ nameL s = false) := by
    by_cases h : f1 = 0
    · cases hn : nameL s
      · exact .inr (.inr ⟨h, rfl⟩)
      · exact .inr (.inl ⟨h, rfl⟩)
    · exact .inl h
  rcases hcase with hf | ⟨hf, hn⟩ | ⟨hf, hn⟩
  · have df : (f1 == 0) = false := by simpa using hf
    have HC4 : Hid (Came 0 a1 0 f1 (((text 1 32).only nameL) (l.drop 0)) (· = s)) := HC1.out.only nameL (fun _ => rfl) (fun _ => rfl) (fun h => absurd h hf)
    clear hf
    go_upto_region 6 with fail
    obtain ⟨w4, hw4⟩ : ∃ w4, w4 = w2 := ⟨_, rfl⟩
    rw [← hw4] at HA2 T0a T1a ⊢
    obtain ⟨f2, HA4, HX4⟩ : ∃ f2, Hid (After wb w4 R (.slice p l.length c) l.length a1 f2) ∧ Hid (Came 0 a1 0 f2 (((text 1 32).only nameL) (l.drop 0)) (· = s)) := ⟨f1, HA2, HC4⟩
    have T0c := Lib.hid T0a.out
    have T1c := Lib.hid T1a.out
    clear hw4 y0 y1 y2 yz0 yz1 yz2 x0 x1 x2 xz1 xz2 df HA2 T0a T1a HC4
    go_wp2_with fail
    refine (HN.out w4 a1 f2 0 4611686018427387904 (HL.out.after HA4.out)).mono ?_
    rintro e w5 ⟨tm, a3, f3, rfl, hi64, haf5, hca5⟩
    have HA5 := Lib.hid (HA4.out.trans haf5)
    have HC5 := Lib.hid hca5
    have T0d := Lib.hid (T0c.out.keeps haf5.g r0)
    have T1d := Lib.hid (T1c.out.keeps haf5.g r1)
    clear haf5 hca5
    obtain ⟨y0, y1, y2, yz0, yz1, yz2⟩ := T1d.out
    go_upto_region 7 with fail
    have HA6 := Lib.hid (HA5.out.set Q1.out HRL.out 1 (.int .i64 tm))
    have T0e := Lib.hid (T0d.out.other (u := .int .i64 tm) (o := 1) r01)
    have T1e := Lib.hid (T1d.out.tm tm)
    clear y0 y1 y2 yz0 yz1 yz2
    obtain ⟨w6, hw6⟩ : ∃ x, x = w5.setCell ⟨g1, 1, none⟩ (.int .i64 tm) := ⟨_, rfl⟩
    rw [← hw6] at HA6 T0e T1e ⊢
    clear hw6
    go_wp2_with fail
    refine (HN.out w6 a3 f3 0 16 (HL.out.after HA6.out)).mono ?_
    rintro e w7 ⟨n0, a4, f4, rfl, hi64', haf7, hca7⟩
    have HA7 := Lib.hid (HA6.out.trans haf7)
    have HC7 := Lib.hid hca7
    have T0f := Lib.hid (T0e.out.keeps haf7.g r0)
    have T1f := Lib.hid (T1e.out.keeps haf7.g r1)
    have HI := Lib.hid hi64'
    have HN0 : Hid (f4 = 0 → 0 ≤ n0 ∧ n0 ≤ 16) := by
      intro h0
      rcases HC7.out with ⟨h1, h2⟩ | ⟨h1, h2⟩
      · exact absurd (h2.symm.trans h0) h1
      · cases hr : numW 0 16 (l.drop a3) with
        | bad E => rw [hr] at h2; exact absurd (h2.1.symm.trans h0) h2.2
        | ok v k =>
          rw [hr] at h2
          obtain ⟨_, _, rfl⟩ := h2
          exact ((numW_form 0 16 (by omega) (by omega)).back _ _ _ hr).1
    clear haf7 hca7 hi64'
    have HEV : Hid (∀ (a' : Nat) (f' n : Int) (done : List V4), ValsSt l a4 f4 n0 done n a' f' → (n ≤ 0 ∨ f' ≠ 0) → Came 0 a' 0 f' (evtR (l.drop 0)) (· = ⟨⟨s.toArray⟩, tm, done⟩)) := fun a' f' n done hst hn => HX4.out.andThen (HC5.out.andThen (HC7.out.andThen (hst.done hn).map))
    clear HX4 HC5 HC7 HC1
    go_wp2
    go_loopw [8] (fun iv wr => ∃ (j : Nat) (done : List V4) (p' : Option Addr) (c' a' : Nat) (f' : Int), j ≤ 16 ∧ iv = .int .i64 j ∧ RefLoop wb R (.slice p l.length c) l B g1 ⟨s.toArray⟩ tm a4 f4 n0 wr j done p' c' a' f') (fun iv _ => 17 - (intOf iv).toNat)
    case atStart => exact ⟨0, [], none, 0, a4, f4, by omega, rfl, HA7.out, T0f.out, T1f.out, World.ownsRow_nil _ _ _ _, by simpa using ValsSt.start l a4 f4 n0 (fun h => (HN0.out h).1), fun h => (by have := HN0.out h; omega)⟩
    case round =>
      obtain ⟨j, done, p', c', a', f', hj16, rfl, haf, ht0, ht1, hown, hst, hnj⟩ := hrel
      have AF := Lib.hid haf
      have TT0 := Lib.hid ht0
      have TT1 := Lib.hid ht1
      have OWN := Lib.hid hown
      have ST := Lib.hid hst
      have NJ := Lib.hid hnj
      have b0 := haf.r.c2
      have HAC : Hid (wr.cell? ⟨R, 0, none⟩ = some (.slice p l.length c) ∧ wr.cell? ⟨R, 1, none⟩ = some (.int .i64 a')) := ⟨haf.r.c0, haf.r.c1⟩
      have HBW : Hid (B < wr.heap.size) := Nat.lt_of_lt_of_le HBR.out haf.g.size
      have HBB : Hid (Below w.heap.size w wr) := HB0.out.trans (Below.of_grown haf.g (by have := HB.out; have := HRE.out; omega) HB0.out.size)
      have hin := HI.out
      have hin1 := hin.1
      have hin2 := hin.2
      clear haf hst hown hnj hin
      by_cases hn : (j : Int) < n0
      · have dn : decide ((j : Int) < n0) = true := by simpa using hn
        by_cases hf : f' = 0
        · have df : (f' == 0) = true := by simpa using hf
          have HF := Lib.hid hf
          clear hf
          go_wp2
          have hd16 : done.length + 1 ≤ 16 := by
            have h1 := ST.out.few HF.out
            have h2 : f4 = 0 := by
              cases ST.out with
              | on h0 => exact h0
              | off h1 => exact absurd HF.out h1
            have := HN0.out h2
            omega
          have hm1 : done.length + 1 ≤ maxLen := by unfold maxLen; omega
          have hm2 : (done.length + 1) * 40 ≤ 140737488355328 := by omega
          have HJ : Hid (j + 1 ≤ 16) := by
            have h2 : f4 = 0 := by
              cases ST.out with
              | on h0 => exact h0
              | off h1 => exact absurd HF.out h1
            have := HN0.out h2
            show _ ≤ _
            omega
          obtain ⟨y0, y1, y2, yz0, yz1, yz2⟩ := ht1
          have HVX : Hid (∀ wx, After wr wx R (.slice p l.length c) l.length a' f' → Calls Tryd.prog 61 #[.pointer (some ⟨R, 0, none⟩)] wx (ValX wx R (.slice p l.length c) l a' f')) := fun wx h1 => (HV.out wx a' f' (HL.out.after (AF.out.trans h1))).mono fun e w' h => ValX.of h
          go_region_law (first | (refine step_append_lies _ rfl _ _ 22 rfl (g1 + 1) 96 i0 (.agg #[.int .i64 0, .int .i64 0, .string ⟨#[]⟩, .bool false]) 4 40 Tryd.underlying22 hi hz0 hz1 hz2 rfl (by decide) (.slice p' done.length c') done.length (cells4 done) rfl (OWN8.out.alloc _) ⟨w8.heap.size, 0, none⟩ 1 1 [.int .i64 vk, .int .i64 vn, .string vs, .bool vb] rfl rfl (fun j u h => lit_cells w8 _ _ j u h) (ones4 vk vn vs vb) (by decide) hm1 hm2 (HB8.out _) (w8.heap.size + 1) (by simp) ?_; intro g cap w9 hown9 hgrow9 hwhere9 hlt9; have T9 := Lib.hid ((T8.out.below ((Below.refl _ _).alloc (Nat.le_refl _) _)).grown hgrow9 (own_not OWN8.out (Nat.lt_succ_self _))); have T09 := Lib.hid ((T08.out.below ((Below.refl _ _).alloc (Nat.le_refl _) _)).grown hgrow9 (own_not OWN8.out RG01.out)); have AF9 := Lib.hid (((AF.out.trans HAF8.out).alloc _).grown hgrow9 HRL.out (fun k hk => Nat.le_trans RG2.out (own_from OWN8.out k hk))); have HOWN9 := Lib.hid hown9; clear hown9 hgrow9 hwhere9 hlt9; obtain ⟨x0, x1, x2, xz0, xz1, xz2⟩ := T9.out) | (go_simp; go_at_call 61; refine (HVX.out wr.drew (After.refl AF.out.r AF.out.le).drew).mono ?_; rintro e w8 ⟨vk, vn, vs, vb, a8, f8, rfl, haf8, hca8⟩; have HG8 : Hid (g1 < w8.heap.size) := Nat.lt_of_lt_of_le (lt_of_cell TT1.out.c0) haf8.undrew.g.size; have HAF8 := Lib.hid haf8.undrew; have HCA8 := Lib.hid hca8; have T8 := Lib.hid (TT1.out.keeps haf8.undrew.g r1); have T08 := Lib.hid (TT0.out.keeps haf8.undrew.g r0); have OWN8 := Lib.hid (own_keeps OWN.out haf8.undrew.g RG1.out); have HB8 : Hid (∀ o : Obj, g1 + 1 ≤ (w8.alloc o).heap.size) := fun o => (by have := HG8.out; simp; omega); clear haf8 hca8; have g8 := HG8.out; obtain ⟨q0, q1, q2, qz0, qz1, qz2⟩ := T8.out))
          all_goals
            go_wp2
            go_roundw
            case rel =>
              refine ⟨j + 1, done ++ [⟨vk, vn, vs, vb⟩], some ⟨g, 0, none⟩, cap, a8, f8, HJ.out, by first | rfl | go_num, ?_⟩
              have T0x := T09.out.other (u := .slice (some ⟨g, 0, none⟩) (done.length + 1) cap) (o := 2) r01
              have T1x := T9.out.vs (.slice (some ⟨g, 0, none⟩) (done.length + 1) cap)
              have OX := own_set (b := g1) (o := 2) (u := .slice (some ⟨g, 0, none⟩) (done.length + 1) cap) HOWN9.out (Nat.lt_succ_self _)
              have AX := AF9.out.set Q1.out HRL.out 2 (.slice (some ⟨g, 0, none⟩) (done.length + 1) cap)
              have e : (done ++ [(⟨vk, vn, vs, vb⟩ : V4)]).length = done.length + 1 := by simp
              have hst2 := ST.out.step (by omega) HF.out HCA8.out
              have e2 : n0 - ((j + 1 : Nat) : Int) = n0 - (j : Int) - 1 := by omega
              refine ⟨AX, T0x, ?_, ?_, by rw [e2]; exact hst2, fun _ => by omega⟩
              · rw [e]; exact T1x
              · rw [e, cells4_snoc]; exact OX
            case measure => simp [intOf]; omega
        · have df : (f' == 0) = false := by simpa using hf
          have dg : (f' != 0) = true := by simpa using hf
          have HF := Lib.hid hf
          clear hf
          obtain ⟨x0, x1, x2, xz0, xz1, xz2⟩ := ht0
          obtain ⟨b1, b2⟩ := HAC.out
          have hb0 := HBW.out
          go_wp2
          go_region
          all_goals
            go_wp2
            refine bodyPost_ret (v := .tuple #[.agg #[.string ⟨#[]⟩, .int .i64 0, .slice none 0 0], .int .i64 0, .int .i64 f']) (by simp [results, Tryd.results29, go_sem, x0, x1, x2, hb0]) rfl ?_
            have q : w.heap.size ≤ B := by have := HB.out; omega
            refine ⟨by repeat (first | exact HBB.out | apply Below.drew | refine Below.setCell ?_ (by assumption) _), ?_⟩
            rcases HEV.out a' f' _ done ST.out (.inr HF.out) with ⟨h, _⟩ | ⟨_, h⟩
            · exact absurd rfl h
            · cases hr : evtR (l.drop 0) with
              | bad E =>
                rw [hr] at h
                rw [List.drop_zero] at hr
                rw [hr]
                exact ⟨by rw [h.1], h.2⟩
              | ok v k =>
                rw [hr] at h
                exact absurd h.1 HF.out
      · have dn : decide ((j : Int) < n0) = false := by simpa using hn
        have HNN : Hid (n0 - (j : Int) ≤ 0) := by show _ ≤ _; omega
        by_cases hf : f' = 0
        · have dg : (f' != 0) = false := by simpa using hf
          have HF := Lib.hid hf
          clear hf
          obtain ⟨x0, x1, x2, xz0, xz1, xz2⟩ := ht0
          obtain ⟨y0, y1, y2, yz0, yz1, yz2⟩ := ht1
          obtain ⟨b1, b2⟩ := HAC.out
          have hb0 := HBW.out
          go_wp2
          go_region
          all_goals
            go_wp2
            refine bodyPost_ret (v := .tuple #[.agg #[.string ⟨s.toArray⟩, .int .i64 tm, .slice p' done.length c'], .int .i64 a', .int .i64 0]) (by simp [results, Tryd.results29, go_sem, x0, x1, x2, y0, y1, y2, hb0]) rfl ?_
            have q : w.heap.size ≤ B := by have := HB.out; omega
            refine ⟨by repeat (first | exact HBB.out | apply Below.drew | refine Below.setCell ?_ (by assumption) _), ?_⟩
            rcases HEV.out a' f' _ done ST.out (.inl HNN.out) with ⟨h, _⟩ | ⟨_, h⟩
            · exact absurd rfl h
            · cases hr : evtR (l.drop 0) with
              | bad E => rw [hr] at h; exact absurd (h.1.symm.trans HF.out) h.2
              | ok ev k =>
                rw [hr] at h
                obtain ⟨_, h2, rfl⟩ := h
                rw [List.drop_zero] at hr
                rw [hr]
                simp only
                rw [h2, Nat.zero_add]
                exact ⟨_, rfl, own_base (own_set (own_set (own_set OWN.out RG01.out) RG01.out) RG01.out) RG3.out⟩
        · have dg : (f' != 0) = true := by simpa using hf
          have HF := Lib.hid hf
          clear hf
          obtain ⟨x0, x1, x2, xz0, xz1, xz2⟩ := ht0
          obtain ⟨b1, b2⟩ := HAC.out
          have hb0 := HBW.out
          go_wp2
          go_region
          all_goals
            go_wp2
            refine bodyPost_ret (v := .tuple #[.agg #[.string ⟨#[]⟩, .int .i64 0, .slice none 0 0], .int .i64 0, .int .i64 f']) (by simp [results, Tryd.results29, go_sem, x0, x1, x2, hb0]) rfl ?_
            have q : w.heap.size ≤ B := by have := HB.out; omega
            refine ⟨by repeat (first | exact HBB.out | apply Below.drew | refine Below.setCell ?_ (by assumption) _), ?_⟩
            rcases HEV.out a' f' _ done ST.out (.inr HF.out) with ⟨h, _⟩ | ⟨_, h⟩
            · exact absurd rfl h
            · cases hr : evtR (l.drop 0) with
              | bad E =>
                rw [hr] at h
                rw [List.drop_zero] at hr
                rw [hr]
                exact ⟨by rw [h.1], h.2⟩
              | ok v k =>
                rw [hr] at h
                exact absurd h.1 HF.out
  · subst hf
    have HNM := Lib.hid hn
    have htl : (⟨s.toArray⟩ : ByteArray).toList = s := toList_mk s
    have HTL := Lib.hid htl
    have HC4 : Hid (Came 0 a1 0 0 (((text 1 32).only nameL) (l.drop 0)) (· = s)) := HC1.out.only nameL (fun _ => rfl) (fun _ => rfl) (fun _ h => by rw [hn] at h; cases h)
    clear hn htl
    go_wp2_with fail
    refine (name_r _ _).mono ?_
    rw [HTL.out, HNM.out]
    rintro e w4 ⟨rfl, hb3⟩
    have HA5 := Lib.hid (HA2.out.below hb3)
    have T0c := Lib.hid (T0a.out.below hb3)
    have T1c := Lib.hid (T1a.out.below hb3)
    clear hb3 y0 y1 y2 yz0 yz1 yz2 x0 x1 x2 xz1 xz2 HA2 T0a T1a
    go_upto_region 6 with fail
    obtain ⟨f2, HA4, HX4⟩ : ∃ f2, Hid (After wb w4 R (.slice p l.length c) l.length a1 f2) ∧ Hid (Came 0 a1 0 f2 (((text 1 32).only nameL) (l.drop 0)) (· = s)) := ⟨0, HA5, HC4⟩
    clear HA5 HC4
    go_wp2_with fail
    refine (HN.out w4 a1 f2 0 4611686018427387904 (HL.out.after HA4.out)).mono ?_
    rintro e w5 ⟨tm, a3, f3, rfl, hi64, haf5, hca5⟩
    have HA5 := Lib.hid (HA4.out.trans haf5)
    have HC5 := Lib.hid hca5
    have T0d := Lib.hid (T0c.out.keeps haf5.g r0)
    have T1d := Lib.hid (T1c.out.keeps haf5.g r1)
    clear haf5 hca5
    obtain ⟨y0, y1, y2, yz0, yz1, yz2⟩ := T1d.out
    go_upto_region 7 with fail
    have HA6 := Lib.hid (HA5.out.set Q1.out HRL.out 1 (.int .i64 tm))
    have T0e := Lib.hid (T0d.out.other (u := .int .i64 tm) (o := 1) r01)
    have T1e := Lib.hid (T1d.out.tm tm)
    clear y0 y1 y2 yz0 yz1 yz2
    obtain ⟨w6, hw6⟩ : ∃ x, x = w5.setCell ⟨g1, 1, none⟩ (.int .i64 tm) := ⟨_, rfl⟩
    rw [← hw6] at HA6 T0e T1e ⊢
    clear hw6
    go_wp2_with fail
    refine (HN.out w6 a3 f3 0 16 (HL.out.after HA6.out)).mono ?_
    rintro e w7 ⟨n0, a4, f4, rfl, hi64', haf7, hca7⟩
    have HA7 := Lib.hid (HA6.out.trans haf7)
    have HC7 := Lib.hid hca7
    have T0f := Lib.hid (T0e.out.keeps haf7.g r0)
    have T1f := Lib.hid (T1e.out.keeps haf7.g r1)
    have HI := Lib.hid hi64'
    have HN0 : Hid (f4 = 0 → 0 ≤ n0 ∧ n0 ≤ 16) := by
      intro h0
      rcases HC7.out with ⟨h1, h2⟩ | ⟨h1, h2⟩
      · exact absurd (h2.symm.trans h0) h1
      · cases hr : numW 0 16 (l.drop a3) with
        | bad E => rw [hr] at h2; exact absurd (h2.1.symm.trans h0) h2.2
        | ok v k =>
          rw [hr] at h2
          obtain ⟨_, _, rfl⟩ := h2
          exact ((numW_form 0 16 (by omega) (by omega)).back _ _ _ hr).1
    clear haf7 hca7 hi64'
    have HEV : Hid (∀ (a' : Nat) (f' n : Int) (done : List V4), ValsSt l a4 f4 n0 done n a' f' → (n ≤ 0 ∨ f' ≠ 0) → Came 0 a' 0 f' (evtR (l.drop 0)) (· = ⟨⟨s.toArray⟩, tm, done⟩)) := fun a' f' n done hst hn => HX4.out.andThen (HC5.out.andThen (HC7.out.andThen (hst.done hn).map))
    clear HX4 HC5 HC7 HC1
    go_wp2
    go_loopw [8] (fun iv wr => ∃ (j : Nat) (done : List V4) (p' : Option Addr) (c' a' : Nat) (f' : Int), j ≤ 16 ∧ iv = .int .i64 j ∧ RefLoop wb R (.slice p l.length c) l B g1 ⟨s.toArray⟩ tm a4 f4 n0 wr j done p' c' a' f') (fun iv _ => 17 - (intOf iv).toNat)
    case atStart => exact ⟨0, [], none, 0, a4, f4, by omega, rfl, HA7.out, T0f.out, T1f.out, World.ownsRow_nil _ _ _ _, by simpa using ValsSt.start l a4 f4 n0 (fun h => (HN0.out h).1), fun h => (by have := HN0.out h; omega)⟩
    case round =>
      obtain ⟨j, done, p', c', a', f', hj16, rfl, haf, ht0, ht1, hown, hst, hnj⟩ := hrel
      have AF := Lib.hid haf
      have TT0 := Lib.hid ht0
      have TT1 := Lib.hid ht1
      have OWN := Lib.hid hown
      have ST := Lib.hid hst
      have NJ := Lib.hid hnj
      have b0 := haf.r.c2
      have HAC : Hid (wr.cell? ⟨R, 0, none⟩ = some (.slice p l.length c) ∧ wr.cell? ⟨R, 1, none⟩ = some (.int .i64 a')) := ⟨haf.r.c0, haf.r.c1⟩
      have HBW : Hid (B < wr.heap.size) := Nat.lt_of_lt_of_le HBR.out haf.g.size
      have HBB : Hid (Below w.heap.size w wr) := HB0.out.trans (Below.of_grown haf.g (by have := HB.out; have := HRE.out; omega) HB0.out.size)
      have hin := HI.out
      have hin1 := hin.1
      have hin2 := hin.2
      clear haf hst hown hnj hin
      by_cases hn : (j : Int) < n0
      · have dn : decide ((j : Int) < n0) = true := by simpa using hn
        by_cases hf : f' = 0
        · have df : (f' == 0) = true := by simpa using hf
          have HF := Lib.hid hf
          clear hf
          go_wp2
          have hd16 : done.length + 1 ≤ 16 := by
            have h1 := ST.out.few HF.out
            have h2 : f4 = 0 := by
              cases ST.out with
              | on h0 => exact h0
              | off h1 => exact absurd HF.out h1
            have := HN0.out h2
            omega
          have hm1 : done.length + 1 ≤ maxLen := by unfold maxLen; omega
          have hm2 : (done.length + 1) * 40 ≤ 140737488355328 := by omega
          have HJ : Hid (j + 1 ≤ 16) := by
            have h2 : f4 = 0 := by
              cases ST.out with
              | on h0 => exact h0
              | off h1 => exact absurd HF.out h1
            have := HN0.out h2
            show _ ≤ _
            omega
          obtain ⟨y0, y1, y2, yz0, yz1, yz2⟩ := ht1
          have HVX : Hid (∀ wx, After wr wx R (.slice p l.length c) l.length a' f' → Calls Tryd.prog 61 #[.pointer (some ⟨R, 0, none⟩)] wx (ValX wx R (.slice p l.length c) l a' f')) := fun wx h1 => (HV.out wx a' f' (HL.out.after (AF.out.trans h1))).mono fun e w' h => ValX.of h
          go_region_law (first | (refine step_append_lies _ rfl _ _ 22 rfl (g1 + 1) 96 i0 (.agg #[.int .i64 0, .int .i64 0, .string ⟨#[]⟩, .bool false]) 4 40 Tryd.underlying22 hi hz0 hz1 hz2 rfl (by decide) (.slice p' done.length c') done.length (cells4 done) rfl (OWN8.out.alloc _) ⟨w8.heap.size, 0, none⟩ 1 1 [.int .i64 vk, .int .i64 vn, .string vs, .bool vb] rfl rfl (fun j u h => lit_cells w8 _ _ j u h) (ones4 vk vn vs vb) (by decide) hm1 hm2 (HB8.out _) (w8.heap.size + 1) (by simp) ?_; intro g cap w9 hown9 hgrow9 hwhere9 hlt9; have T9 := Lib.hid ((T8.out.below ((Below.refl _ _).alloc (Nat.le_refl _) _)).grown hgrow9 (own_not OWN8.out (Nat.lt_succ_self _))); have T09 := Lib.hid ((T08.out.below ((Below.refl _ _).alloc (Nat.le_refl _) _)).grown hgrow9 (own_not OWN8.out RG01.out)); have AF9 := Lib.hid (((AF.out.trans HAF8.out).alloc _).grown hgrow9 HRL.out (fun k hk => Nat.le_trans RG2.out (own_from OWN8.out k hk))); have HOWN9 := Lib.hid hown9; clear hown9 hgrow9 hwhere9 hlt9; obtain ⟨x0, x1, x2, xz0, xz1, xz2⟩ := T9.out) | (go_simp; go_at_call 61; refine (HVX.out wr.drew (After.refl AF.out.r AF.out.le).drew).mono ?_; rintro e w8 ⟨vk, vn, vs, vb, a8, f8, rfl, haf8, hca8⟩; have HG8 : Hid (g1 < w8.heap.size) := Nat.lt_of_lt_of_le (lt_of_cell TT1.out.c0) haf8.undrew.g.size; have HAF8 := Lib.hid haf8.undrew; have HCA8 := Lib.hid hca8; have T8 := Lib.hid (TT1.out.keeps haf8.undrew.g r1); have T08 := Lib.hid (TT0.out.keeps haf8.undrew.g r0); have OWN8 := Lib.hid (own_keeps OWN.out haf8.undrew.g RG1.out); have HB8 : Hid (∀ o : Obj, g1 + 1 ≤ (w8.alloc o).heap.size) := fun o => (by have := HG8.out; simp; omega); clear haf8 hca8; have g8 := HG8.out; obtain ⟨q0, q1, q2, qz0, qz1, qz2⟩ := T8.out))
          all_goals
            go_wp2
            go_roundw
            case rel =>
              refine ⟨j + 1, done ++ [⟨vk, vn, vs, vb⟩], some ⟨g, 0, none⟩, cap, a8, f8, HJ.out, by first | rfl | go_num, ?_⟩
              have T0x := T09.out.other (u := .slice (some ⟨g, 0, none⟩) (done.length + 1) cap) (o := 2) r01
              have T1x := T9.out.vs (.slice (some ⟨g, 0, none⟩) (done.length + 1) cap)
              have OX := own_set (b := g1) (o := 2) (u := .slice (some ⟨g, 0, none⟩) (done.length + 1) cap) HOWN9.out (Nat.lt_succ_self _)
              have AX := AF9.out.set Q1.out HRL.out 2 (.slice (some ⟨g, 0, none⟩) (done.length + 1) cap)
              have e : (done ++ [(⟨vk, vn, vs, vb⟩ : V4)]).length = done.length + 1 := by simp
              have hst2 := ST.out.step (by omega) HF.out HCA8.out
              have e2 : n0 - ((j + 1 : Nat) : Int) = n0 - (j : Int) - 1 := by omega
              refine ⟨AX, T0x, ?_, ?_, by rw [e2]; exact hst2, fun _ => by omega⟩
              · rw [e]; exact T1x
              · rw [e, cells4_snoc]; exact OX
            case measure => simp [intOf]; omega
        · have df : (f' == 0) = false := by simpa using hf
          have dg : (f' != 0) = true := by simpa using hf
          have HF := Lib.hid hf
          clear hf
          obtain ⟨x0, x1, x2, xz0, xz1, xz2⟩ := ht0
          obtain ⟨b1, b2⟩ := HAC.out
          have hb0 := HBW.out
          go_wp2
          go_region
          all_goals
            go_wp2
            refine bodyPost_ret (v := .tuple #[.agg #[.string ⟨#[]⟩, .int .i64 0, .slice none 0 0], .int .i64 0, .int .i64 f']) (by simp [results, Tryd.results29, go_sem, x0, x1, x2, hb0]) rfl ?_
            have q : w.heap.size ≤ B := by have := HB.out; omega
            refine ⟨by repeat (first | exact HBB.out | apply Below.drew | refine Below.setCell ?_ (by assumption) _), ?_⟩
            rcases HEV.out a' f' _ done ST.out (.inr HF.out) with ⟨h, _⟩ | ⟨_, h⟩
            · exact absurd rfl h
            · cases hr : evtR (l.drop 0) with
              | bad E =>
                rw [hr] at h
                rw [List.drop_zero] at hr
                rw [hr]
                exact ⟨by rw [h.1], h.2⟩
              | ok v k =>
                rw [hr] at h
                exact absurd h.1 HF.out
      · have dn : decide ((j : Int) < n0) = false := by simpa using hn
        have HNN : Hid (n0 - (j : Int) ≤ 0) := by show _ ≤ _; omega
        by_cases hf : f' = 0
        · have dg : (f' != 0) = false := by simpa using hf
          have HF := Lib.hid hf
          clear hf
          obtain ⟨x0, x1, x2, xz0, xz1, xz2⟩ := ht0
          obtain ⟨y0, y1, y2, yz0, yz1, yz2⟩ := ht1
          obtain ⟨b1, b2⟩ := HAC.out
          have hb0 := HBW.out
          go_wp2
          go_region
          all_goals
            go_wp2
            refine bodyPost_ret (v := .tuple #[.agg #[.string ⟨s.toArray⟩, .int .i64 tm, .slice p' done.length c'], .int .i64 a', .int .i64 0]) (by simp [results, Tryd.results29, go_sem, x0, x1, x2, y0, y1, y2, hb0]) rfl ?_
            have q : w.heap.size ≤ B := by have := HB.out; omega
            refine ⟨by repeat (first | exact HBB.out | apply Below.drew | refine Below.setCell ?_ (by assumption) _), ?_⟩
            rcases HEV.out a' f' _ done ST.out (.inl HNN.out) with ⟨h, _⟩ | ⟨_, h⟩
            · exact absurd rfl h
            · cases hr : evtR (l.drop 0) with
              | bad E => rw [hr] at h; exact absurd (h.1.symm.trans HF.out) h.2
              | ok ev k =>
                rw [hr] at h
                obtain ⟨_, h2, rfl⟩ := h
                rw [List.drop_zero] at hr
                rw [hr]
                simp only
                rw [h2, Nat.zero_add]
                exact ⟨_, rfl, own_base (own_set (own_set (own_set OWN.out RG01.out) RG01.out) RG01.out) RG3.out⟩
        · have dg : (f' != 0) = true := by simpa using hf
          have HF := Lib.hid hf
          clear hf
          obtain ⟨x0, x1, x2, xz0, xz1, xz2⟩ := ht0
          obtain ⟨b1, b2⟩ := HAC.out
          have hb0 := HBW.out
          go_wp2
          go_region
          all_goals
            go_wp2
            refine bodyPost_ret (v := .tuple #[.agg #[.string ⟨#[]⟩, .int .i64 0, .slice none 0 0], .int .i64 0, .int .i64 f']) (by simp [results, Tryd.results29, go_sem, x0, x1, x2, hb0]) rfl ?_
            have q : w.heap.size ≤ B := by have := HB.out; omega
            refine ⟨by repeat (first | exact HBB.out | apply Below.drew | refine Below.setCell ?_ (by assumption) _), ?_⟩
            rcases HEV.out a' f' _ done ST.out (.inr HF.out) with ⟨h, _⟩ | ⟨_, h⟩
            · exact absurd rfl h
            · cases hr : evtR (l.drop 0) with
              | bad E =>
                rw [hr] at h
                rw [List.drop_zero] at hr
                rw [hr]
                exact ⟨by rw [h.1], h.2⟩
              | ok v k =>
                rw [hr] at h
                exact absurd h.1 HF.out
  · subst hf
    have HNM := Lib.hid hn
    have htl : (⟨s.toArray⟩ : ByteArray).toList = s := toList_mk s
    have HTL := Lib.hid htl
    clear hn htl
    go_wp2_with fail
    refine (name_r _ _).mono ?_
    rw [HTL.out, HNM.out]
    rintro e w3 ⟨rfl, hb3⟩
    have HA3 := Lib.hid (HA2.out.below hb3)
    have T0b := Lib.hid (T0a.out.below hb3)
    have T1b := Lib.hid (T1a.out.below hb3)
    clear hb3 y0 y1 y2 yz0 yz1 yz2 x0 x1 x2 xz1 xz2 HA2 T0a T1a
    go_wp2_with fail
    refine (fault_dem R _ l.length a1 0 31 w3 HA3.out.r HA3.out.le).mono ?_
    rintro e w4 ⟨rfl, f2, haf4, hd1, hd2, hd3⟩
    have HA4 := Lib.hid (HA3.out.trans haf4)
    have HX4 : Hid (Came 0 a1 0 f2 (((text 1 32).only nameL) (l.drop 0)) (· = s)) := HC1.out.only nameL (fun h => absurd rfl h) (fun h => by rw [HNM.out] at h; cases h) (fun _ _ => hd3 rfl rfl)
    have T0c := Lib.hid (T0b.out.keeps haf4.g r0)
    have T1c := Lib.hid (T1b.out.keeps haf4.g r1)
    clear haf4 hd3 hd1 hd2
    go_upto_region 6 with fail
    go_wp2_with fail
    refine (HN.out w4 a1 f2 0 4611686018427387904 (HL.out.after HA4.out)).mono ?_
    rintro e w5 ⟨tm, a3, f3, rfl, hi64, haf5, hca5⟩
    have HA5 := Lib.hid (HA4.out.trans haf5)
    have HC5 := Lib.hid hca5
    have T0d := Lib.hid (T0c.out.keeps haf5.g r0)
    have T1d := Lib.hid (T1c.out.keeps haf5.g r1)
    clear haf5 hca5
    obtain ⟨y0, y1, y2, yz0, yz1, yz2⟩ := T1d.out
    go_upto_region 7 with fail
    have HA6 := Lib.hid (HA5.out.set Q1.out HRL.out 1 (.int .i64 tm))
    have T0e := Lib.hid (T0d.out.other (u := .int .i64 tm) (o := 1) r01)
    have T1e := Lib.hid (T1d.out.tm tm)
    clear y0 y1 y2 yz0 yz1 yz2
    obtain ⟨w6, hw6⟩ : ∃ x, x = w5.setCell ⟨g1, 1, none⟩ (.int .i64 tm) := ⟨_, rfl⟩
    rw [← hw6] at HA6 T0e T1e ⊢
    clear hw6
    go_wp2_with fail
    refine (HN.out w6 a3 f3 0 16 (HL.out.after HA6.out)).mono ?_
    rintro e w7 ⟨n0, a4, f4, rfl, hi64', haf7, hca7⟩
    have HA7 := Lib.hid (HA6.out.trans haf7)
    have HC7 := Lib.hid hca7
    have T0f := Lib.hid (T0e.out.keeps haf7.g r0)
    have T1f := Lib.hid (T1e.out.keeps haf7.g r1)
    have HI := Lib.hid hi64'
    have HN0 : Hid (f4 = 0 → 0 ≤ n0 ∧ n0 ≤ 16) := by
      intro h0
      rcases HC7.out with ⟨h1, h2⟩ | ⟨h1, h2⟩
      · exact absurd (h2.symm.trans h0) h1
      · cases hr : numW 0 16 (l.drop a3) with
        | bad E => rw [hr] at h2; exact absurd (h2.1.symm.trans h0) h2.2
        | ok v k =>
          rw [hr] at h2
          obtain ⟨_, _, rfl⟩ := h2
          exact ((numW_form 0 16 (by omega) (by omega)).back _ _ _ hr).1
    clear haf7 hca7 hi64'
    have HEV : Hid (∀ (a' : Nat) (f' n : Int) (done : List V4), ValsSt l a4 f4 n0 done n a' f' → (n ≤ 0 ∨ f' ≠ 0) → Came 0 a' 0 f' (evtR (l.drop 0)) (· = ⟨⟨s.toArray⟩, tm, done⟩)) := fun a' f' n done hst hn => HX4.out.andThen (HC5.out.andThen (HC7.out.andThen (hst.done hn).map))
    clear HX4 HC5 HC7 HC1
    go_wp2
    go_loopw [8] (fun iv wr => ∃ (j : Nat) (done : List V4) (p' : Option Addr) (c' a' : Nat) (f' : Int), j ≤ 16 ∧ iv = .int .i64 j ∧ RefLoop wb R (.slice p l.length c) l B g1 ⟨s.toArray⟩ tm a4 f4 n0 wr j done p' c' a' f') (fun iv _ => 17 - (intOf iv).toNat)
    case atStart => exact ⟨0, [], none, 0, a4, f4, by omega, rfl, HA7.out, T0f.out, T1f.out, World.ownsRow_nil _ _ _ _, by simpa using ValsSt.start l a4 f4 n0 (fun h => (HN0.out h).1), fun h => (by have := HN0.out h; omega)⟩
    case round =>
      obtain ⟨j, done, p', c', a', f', hj16, rfl, haf, ht0, ht1, hown, hst, hnj⟩ := hrel
      have AF := Lib.hid haf
      have TT0 := Lib.hid ht0
      have TT1 := Lib.hid ht1
      have OWN := Lib.hid hown
      have ST := Lib.hid hst
      have NJ := Lib.hid hnj
      have b0 := haf.r.c2
      have HAC : Hid (wr.cell? ⟨R, 0, none⟩ = some (.slice p l.length c) ∧ wr.cell? ⟨R, 1, none⟩ = some (.int .i64 a')) := ⟨haf.r.c0, haf.r.c1⟩
      have HBW : Hid (B < wr.heap.size) := Nat.lt_of_lt_of_le HBR.out haf.g.size
      have HBB : Hid (Below w.heap.size w wr) := HB0.out.trans (Below.of_grown haf.g (by have := HB.out; have := HRE.out; omega) HB0.out.size)
      have hin := HI.out
      have hin1 := hin.1
      have hin2 := hin.2
      clear haf hst hown hnj hin
      by_cases hn : (j : Int) < n0
      · have dn : decide ((j : Int) < n0) = true := by simpa using hn
        by_cases hf : f' = 0
        · have df : (f' == 0) = true := by simpa using hf
          have HF := Lib.hid hf
          clear hf
          go_wp2
          have hd16 : done.length + 1 ≤ 16 := by
            have h1 := ST.out.few HF.out
            have h2 : f4 = 0 := by
              cases ST.out with
              | on h0 => exact h0
              | off h1 => exact absurd HF.out h1
            have := HN0.out h2
            omega
          have hm1 : done.length + 1 ≤ maxLen := by unfold maxLen; omega
          have hm2 : (done.length + 1) * 40 ≤ 140737488355328 := by omega
          have HJ : Hid (j + 1 ≤ 16) := by
            have h2 : f4 = 0 := by
              cases ST.out with
              | on h0 => exact h0
              | off h1 => exact absurd HF.out h1
            have := HN0.out h2
            show _ ≤ _
            omega
          obtain ⟨y0, y1, y2, yz0, yz1, yz2⟩ := ht1
          have HVX : Hid (∀ wx, After wr wx R (.slice p l.length c) l.length a' f' → Calls Tryd.prog 61 #[.pointer (some ⟨R, 0, none⟩)] wx (ValX wx R (.slice p l.length c) l a' f')) := fun wx h1 => (HV.out wx a' f' (HL.out.after (AF.out.trans h1))).mono fun e w' h => ValX.of h
          go_region_law (first | (refine step_append_lies _ rfl _ _ 22 rfl (g1 + 1) 96 i0 (.agg #[.int .i64 0, .int .i64 0, .string ⟨#[]⟩, .bool false]) 4 40 Tryd.underlying22 hi hz0 hz1 hz2 rfl (by decide) (.slice p' done.length c') done.length (cells4 done) rfl (OWN8.out.alloc _) ⟨w8.heap.size, 0, none⟩ 1 1 [.int .i64 vk, .int .i64 vn, .string vs, .bool vb] rfl rfl (fun j u h => lit_cells w8 _ _ j u h) (ones4 vk vn vs vb) (by decide) hm1 hm2 (HB8.out _) (w8.heap.size + 1) (by simp) ?_; intro g cap w9 hown9 hgrow9 hwhere9 hlt9; have T9 := Lib.hid ((T8.out.below ((Below.refl _ _).alloc (Nat.le_refl _) _)).grown hgrow9 (own_not OWN8.out (Nat.lt_succ_self _))); have T09 := Lib.hid ((T08.out.below ((Below.refl _ _).alloc (Nat.le_refl _) _)).grown hgrow9 (own_not OWN8.out RG01.out)); have AF9 := Lib.hid (((AF.out.trans HAF8.out).alloc _).grown hgrow9 HRL.out (fun k hk => Nat.le_trans RG2.out (own_from OWN8.out k hk))); have HOWN9 := Lib.hid hown9; clear hown9 hgrow9 hwhere9 hlt9; obtain ⟨x0, x1, x2, xz0, xz1, xz2⟩ := T9.out) | (go_simp; go_at_call 61; refine (HVX.out wr.drew (After.refl AF.out.r AF.out.le).drew).mono ?_; rintro e w8 ⟨vk, vn, vs, vb, a8, f8, rfl, haf8, hca8⟩; have HG8 : Hid (g1 < w8.heap.size) := Nat.lt_of_lt_of_le (lt_of_cell TT1.out.c0) haf8.undrew.g.size; have HAF8 := Lib.hid haf8.undrew; have HCA8 := Lib.hid hca8; have T8 := Lib.hid (TT1.out.keeps haf8.undrew.g r1); have T08 := Lib.hid (TT0.out.keeps haf8.undrew.g r0); have OWN8 := Lib.hid (own_keeps OWN.out haf8.undrew.g RG1.out); have HB8 : Hid (∀ o : Obj, g1 + 1 ≤ (w8.alloc o).heap.size) := fun o => (by have := HG8.out; simp; omega); clear haf8 hca8; have g8 := HG8.out; obtain ⟨q0, q1, q2, qz0, qz1, qz2⟩ := T8.out))
          all_goals
            go_wp2
            go_roundw
            case rel =>
              refine ⟨j + 1, done ++ [⟨vk, vn, vs, vb⟩], some ⟨g, 0, none⟩, cap, a8, f8, HJ.out, by first | rfl | go_num, ?_⟩
              have T0x := T09.out.other (u := .slice (some ⟨g, 0, none⟩) (done.length + 1) cap) (o := 2) r01
              have T1x := T9.out.vs (.slice (some ⟨g, 0, none⟩) (done.length + 1) cap)
              have OX := own_set (b := g1) (o := 2) (u := .slice (some ⟨g, 0, none⟩) (done.length + 1) cap) HOWN9.out (Nat.lt_succ_self _)
              have AX := AF9.out.set Q1.out HRL.out 2 (.slice (some ⟨g, 0, none⟩) (done.length + 1) cap)
              have e : (done ++ [(⟨vk, vn, vs, vb⟩ : V4)]).length = done.length + 1 := by simp
              have hst2 := ST.out.step (by omega) HF.out HCA8.out
              have e2 : n0 - ((j + 1 : Nat) : Int) = n0 - (j : Int) - 1 := by omega
              refine ⟨AX, T0x, ?_, ?_, by rw [e2]; exact hst2, fun _ => by omega⟩
              · rw [e]; exact T1x
              · rw [e, cells4_snoc]; exact OX
            case measure => simp [intOf]; omega
        · have df : (f' == 0) = false := by simpa using hf
          have dg : (f' != 0) = true := by simpa using hf
          have HF := Lib.hid hf
          clear hf
          obtain ⟨x0, x1, x2, xz0, xz1, xz2⟩ := ht0
          obtain ⟨b1, b2⟩ := HAC.out
          have hb0 := HBW.out
          go_wp2
          go_region
          all_goals
            go_wp2
            refine bodyPost_ret (v := .tuple #[.agg #[.string ⟨#[]⟩, .int .i64 0, .slice none 0 0], .int .i64 0, .int .i64 f']) (by simp [results, Tryd.results29, go_sem, x0, x1, x2, hb0]) rfl ?_
            have q : w.heap.size ≤ B := by have := HB.out; omega
            refine ⟨by repeat (first | exact HBB.out | apply Below.drew | refine Below.setCell ?_ (by assumption) _), ?_⟩
            rcases HEV.out a' f' _ done ST.out (.inr HF.out) with ⟨h, _⟩ | ⟨_, h⟩
            · exact absurd rfl h
            · cases hr : evtR (l.drop 0) with
              | bad E =>
                rw [hr] at h
                rw [List.drop_zero] at hr
                rw [hr]
                exact ⟨by rw [h.1], h.2⟩
              | ok v k =>
                rw [hr] at h
                exact absurd h.1 HF.out
      · have dn : decide ((j : Int) < n0) = false := by simpa using hn
        have HNN : Hid (n0 - (j : Int) ≤ 0) := by show _ ≤ _; omega
        by_cases hf : f' = 0
        · have dg : (f' != 0) = false := by simpa using hf
          have HF := Lib.hid hf
          clear hf
          obtain ⟨x0, x1, x2, xz0, xz1, xz2⟩ := ht0
          obtain ⟨y0, y1, y2, yz0, yz1, yz2⟩ := ht1
          obtain ⟨b1, b2⟩ := HAC.out
          have hb0 := HBW.out
          go_wp2
          go_region
          all_goals
            go_wp2
            refine bodyPost_ret (v := .tuple #[.agg #[.string ⟨s.toArray⟩, .int .i64 tm, .slice p' done.length c'], .int .i64 a', .int .i64 0]) (by simp [results, Tryd.results29, go_sem, x0, x1, x2, y0, y1, y2, hb0]) rfl ?_
            have q : w.heap.size ≤ B := by have := HB.out; omega
            refine ⟨by repeat (first | exact HBB.out | apply Below.drew | refine Below.setCell ?_ (by assumption) _), ?_⟩
            rcases HEV.out a' f' _ done ST.out (.inl HNN.out) with ⟨h, _⟩ | ⟨_, h⟩
            · exact absurd rfl h
            · cases hr : evtR (l.drop 0) with
              | bad E => rw [hr] at h; exact absurd (h.1.symm.trans HF.out) h.2
              | ok ev k =>
                rw [hr] at h
                obtain ⟨_, h2, rfl⟩ := h
                rw [List.drop_zero] at hr
                rw [hr]
                simp only
                rw [h2, Nat.zero_add]
                exact ⟨_, rfl, own_base (own_set (own_set (own_set OWN.out RG01.out) RG01.out) RG01.out) RG3.out⟩
        · have dg : (f' != 0) = true := by simpa using hf
          have HF := Lib.hid hf
          clear hf
          obtain ⟨x0, x1, x2, xz0, xz1, xz2⟩ := ht0
          obtain ⟨b1, b2⟩ := HAC.out
          have hb0 := HBW.out
          go_wp2
          go_region
          all_goals
            go_wp2
            refine bodyPost_ret (v := .tuple #[.agg #[.string ⟨#[]⟩, .int .i64 0, .slice none 0 0], .int .i64 0, .int .i64 f']) (by simp [results, Tryd.results29, go_sem, x0, x1, x2, hb0]) rfl ?_
            have q : w.heap.size ≤ B := by have := HB.out; omega
            refine ⟨by repeat (first | exact HBB.out | apply Below.drew | refine Below.setCell ?_ (by assumption) _), ?_⟩
            rcases HEV.out a' f' _ done ST.out (.inr HF.out) with ⟨h, _⟩ | ⟨_, h⟩
            · exact absurd rfl h
            · cases hr : evtR (l.drop 0) with
              | bad E =>
                rw [hr] at h
                rw [List.drop_zero] at hr
                rw [hr]
                exact ⟨by rw [h.1], h.2⟩
              | ok v k =>
                rw [hr] at h
                exact absurd h.1 HF.out
end Go.Proofs.YtlinpkmfjkcoiaaDoor
