/- Contracts of the document's own answer's reader: fault, one, number. -/
import Derived.Test.YtlinpkmfjkcoiaaDoorT3
import Derived.BigQuiet
import Derived.Deep.QuietTactic
import Derived.IntWalk
namespace Go.Proofs.YtlinpkmfjkcoiaaDoor
open Go Go.RowKit
set_option maxHeartbeats 2000000
set_option linter.unusedVariables false
set_option linter.unusedSimpArgs false
attribute [local go_sem ↓] run_rest
theorem fault_r (R : Nat) (sv : Value) (a : Nat) (f : Int) (E : Int) (w : World) (hr : Rdr w R sv a f) : Calls Tryd.prog 59 #[.pointer (some ⟨R, 0, none⟩), .int .i64 E] w (Demanded w R f false E) := by
  obtain ⟨c0, c1, c2, z1, z2⟩ := hr
  by_cases hf : f = 0
  · subst hf
    go_enter Tryd.func59, Tryd.ntmps59
    go_wp2
    first | go_end0 | refine bodyPost_ret (v := .tuple #[]) (by simp [results, Tryd.results59, go_sem]) rfl ?_
    exact ⟨rfl, by simp⟩
  · have hf' : (f == 0) = false := by simpa using hf
    have HF := Lib.hid hf
    clear hf
    go_enter Tryd.func59, Tryd.ntmps59
    go_wp2
    first | go_end0 | refine bodyPost_ret (v := .tuple #[]) (by simp [results, Tryd.results59, go_sem]) rfl ?_
    exact ⟨rfl, by rw [if_neg (fun h => HF.out h.1)]⟩
theorem fault_dem (R : Nat) (sv : Value) (n a : Nat) (f : Int) (E : Int) (w : World) (hr : Rdr w R sv a f) (ha : a ≤ n) : Calls Tryd.prog 59 #[.pointer (some ⟨R, 0, none⟩), .int .i64 E] w (Dem w R sv n a f false E) := by
  refine (fault_r R sv a f E w hr).mono ?_
  rintro e w' ⟨rfl, rfl⟩
  refine ⟨rfl, ?_⟩
  by_cases h : f = 0 ∧ false = false
  · rw [if_pos h]
    exact ⟨E, ⟨Lib.grownBy_setB (World.grownBy.refl w _) 2 _, hr.bad E, ha⟩, (fun hf => absurd h.1 hf), (fun hk => by cases hk), (fun _ _ => rfl)⟩
  · rw [if_neg h]
    exact ⟨f, After.refl hr ha, fun _ => rfl, fun _ => rfl, fun h0 hk => absurd ⟨h0, hk⟩ h⟩
theorem After.drewN {w : World} {R : Nat} {sv : Value} {n a : Nat} {f : Int} (h : Rdr w R sv a f) (ha : a ≤ n) (m : Nat) : After w (w.drewN m) R sv n a f := ⟨grown_drewN w m _, h.drewN m, ha⟩
theorem After.at {w w1 : World} {R : Nat} {sv : Value} {n a : Nat} {f : Int} (h : After w w1 R sv n a f) {a1 : Nat} (ha : a1 ≤ n) : After w (w1.setCell ⟨R, 1, none⟩ (.int .i64 a1)) R sv n a1 f := ⟨Lib.grownBy_setB h.g 1 _, h.r.at a1, ha⟩
set_option maxRecDepth 100000 in
theorem refOne_any (R : Nat) (p : Option Addr) (c : Nat) (l : List UInt8) (a : Nat) (f : Int) (w : World) (h : Lies w R p c l a f) :
    Calls Tryd.prog 86 #[.pointer (some ⟨R, 0, none⟩)] w (One w R (.slice p l.length c) l a f) := by
  have H := Lib.hid h
  have hr := h.rd
  have ha := h.le
  have HAF := Lib.hid (After.refl h.rd h.le)
  have HDR : Hid (∀ k, After w (w.drewN k) R (.slice p l.length c) l.length a f) := fun k => After.drewN h.rd h.le k
  have hcm : c ≤ 9223372036854775807 := by have := h.mx; unfold maxLen at this; exact this
  have hcl := h.cp
  obtain ⟨m, hml⟩ : ∃ m, m = l.length := ⟨_, rfl⟩
  have HM := Lib.hid hml
  rw [← hml] at hr ha hcl HAF HDR ⊢
  clear h
  by_cases hf : f = 0
  · subst hf
    obtain ⟨c0, c1, c2, z1, z2⟩ := hr
    by_cases hm : a = m
    · have de : ((a : Int) == (m : Int)) = true := by simp; omega
      have HND : Hid (oneR (l.drop a) = .bad 30) := by
        show _ = _
        rw [List.drop_eq_nil_of_le (by omega)]
        rfl
      clear hm hml hcl ha
      go_enter Tryd.func86, Tryd.ntmps86
      go_wp2
      go_quiet (fail)
      obtain ⟨w1, hw1⟩ : ∃ w1, w1 = w.drewN nq := ⟨_, rfl⟩
      rw [← hw1]
      have HA1 : Hid (After w w1 R (.slice p m c) m a 0) := by show After _ _ _ _ _ _ _; rw [hw1]; exact HDR.out nq
      clear hw1 c0 c1 c2 z1 z2
      go_wp2_with fail
      refine (fault_dem R _ m a 0 30 w1 HA1.out.r HA1.out.le).mono ?_
      rintro e w2 ⟨rfl, f2, haf2, _, _, hd3⟩
      have HA2 := Lib.hid (HA1.out.trans haf2)
      obtain rfl := (hd3 rfl rfl)
      clear haf2 hd3
      go_wp2
      go_ret
      exact ⟨0, a, 30, rfl, by rw [← HM.out]; exact HA2.out, .inr ⟨rfl, by rw [HND.out]; exact ⟨rfl, by decide⟩⟩, fun _ => rfl⟩
    · have de : ((a : Int) == (m : Int)) = false := by simp; omega
      have hal : a < l.length := by omega
      have ham : (a : Int) < (m : Int) := by omega
      obtain ⟨b, o, rfl, _, d⟩ := H.out.by_ a hal
      obtain ⟨x, hx⟩ : ∃ x, x = l[a] := ⟨_, rfl⟩
      rw [← hx] at d
      have HND : Hid (oneR (l.drop a) = .ok x 1) := by
        show _ = _
        rw [List.drop_eq_getElem_cons hal, hx]
        rfl
      have HBY : Hid (∀ w', w.grownBy w' (some R) → w'.cell? ⟨b, o + a, none⟩ = some (.int .u8 (x.toNat : Int))) := fun w' hg => by
        obtain ⟨b', o', e', _, d'⟩ := (H.out.by_.grown hg) a hal
        simp only [Option.some.injEq, Addr.mk.injEq, and_true] at e'
        obtain ⟨rfl, rfl⟩ := e'
        rw [hx]
        exact d'
      obtain ⟨a1, ha1⟩ : ∃ a1, a1 = a + 1 := ⟨_, rfl⟩
      have E1 : Hid (((a : Int) + 1) = (a1 : Int)) := by show _ = _; omega
      have HA1L : Hid (a1 ≤ m) := by show _ ≤ _; omega
      have HA1 := Lib.hid ha1
      have hamm : a < 9223372036854775807 := by omega
      clear hm hx hml d ha1
      go_enter Tryd.func86, Tryd.ntmps86
      go_wp2
      go_quiet (fail)
      obtain ⟨w1, hw1⟩ : ∃ w1, w1 = w.drewN nq := ⟨_, rfl⟩
      rw [← hw1]
      have HF1 : Hid (After w w1 R (.slice (some ⟨b, o, none⟩) m c) m a 0) := by show After _ _ _ _ _ _ _; rw [hw1]; exact HDR.out nq
      clear hw1 c0 c1 c2 z1 z2
      obtain ⟨c0, c1, c2, z1, z2⟩ := HF1.out.r
      go_upto_region 7 with fail
      rw [show _ = _ from E1.out]
      have HF2 : Hid (After w (w1.setCell ⟨R, 1, none⟩ (.int .i64 (a1 : Int))) R (.slice (some ⟨b, o, none⟩) m c) m a1 0) := HF1.out.at HA1L.out
      obtain ⟨w2, hw2⟩ : ∃ w2, w2 = w1.setCell ⟨R, 1, none⟩ (.int .i64 (a1 : Int)) := ⟨_, rfl⟩
      rw [← hw2] at HF2 ⊢
      clear hw2 c0 c1 c2 z1 z2
      obtain ⟨c0, c1, c2, z1, z2⟩ := HF2.out.r
      have d := HBY.out w2 HF2.out.g
      have e2 : IntKind.i64.wrap (a : Int) = (a : Int) := by rw [IntWalk.i64_in _ (by omega)]
      have e3 : (a1 : Int) - 1 = (a : Int) := by have := HA1.out; omega
      have e4 : (0 : Int) ≤ (a : Int) := by omega
      clear hal hamm hcl hcm ha
      go_quiet (fail)
      go_wp2
      go_ret
      exact ⟨x, a1, 0, rfl, by rw [← HM.out]; exact HF2.out.trans (After.drewN HF2.out.r HF2.out.le _), .inr ⟨rfl, by rw [HND.out]; exact ⟨rfl, HA1.out, rfl⟩⟩, fun h => absurd rfl h⟩
  · have df : (f != 0) = true := by simpa using hf
    have HF := Lib.hid hf
    obtain ⟨c0, c1, c2, z1, z2⟩ := hr
    clear hf hml
    go_enter Tryd.func86, Tryd.ntmps86
    go_wp2
    go_ret
    exact ⟨0, a, f, rfl, by rw [← HM.out]; exact HAF.out, .inl ⟨HF.out, rfl⟩, fun _ => rfl⟩
end Go.Proofs.YtlinpkmfjkcoiaaDoor
