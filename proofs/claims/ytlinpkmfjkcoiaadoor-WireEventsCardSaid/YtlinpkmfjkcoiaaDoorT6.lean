/- Contract of the document's own answer's reader: text. -/
import Derived.Test.YtlinpkmfjkcoiaaDoorT5
namespace Go.Proofs.YtlinpkmfjkcoiaaDoor
open Go Go.RowKit
set_option maxHeartbeats 2000000
set_option linter.unusedVariables false
set_option linter.unusedSimpArgs false
theorem run_mid (p : Option Addr) (a h n c : Nat) (ha : a ≤ h) (hh : h ≤ c) (w : World) : (Instr.slice 25 (.slice p n c) (some (.int .i64 a)) (some (.int .i64 h)) none).run Tryd.prog w = .ok (.slice (restP p a c) (h - a) (c - a)) w := by
  have hs : (sizeOf 5).run Tryd.prog w = .ok 1 w := by kernel_rfl
  have he : Tryd.prog.elem 25 = 5 := by kernel_rfl
  rw [run_slice_lh w 25 p n c (by rw [he]; exact Tryd.underlying25) .i64 .i64 a h (by omega) (by omega) (by omega), he, hs]
  simp [Result.andThen, sliced, restP]
attribute [local go_sem ↓] run_mid
set_option maxRecDepth 100000 in
theorem refText_any (R : Nat) (p : Option Addr) (c : Nat) (l : List UInt8) (a : Nat) (f lo hi : Int) (hlo : 0 ≤ lo) (w : World) (h : Lies w R p c l a f) :
    Calls Tryd.prog 58 #[.pointer (some ⟨R, 0, none⟩), .int .i64 lo, .int .i64 hi] w (Txt w R (.slice p l.length c) l a f lo hi) := by
  have H := Lib.hid h
  have hn := refNum_any R p c l a f lo hi w h
  have hcm : c ≤ 9223372036854775807 := by have := h.mx; unfold maxLen at this; exact this
  have hcl := h.cp
  obtain ⟨m, hml⟩ : ∃ m, m = l.length := ⟨_, rfl⟩
  have HM := Lib.hid hml
  rw [← hml] at hn hcl ⊢
  clear h hml
  go_enter Tryd.func58, Tryd.ntmps58
  go_wp2_with fail
  refine hn.mono ?_
  rintro e w1 ⟨n, a1, f1, rfl, hi64, haf, hca⟩
  rw [← HM.out] at haf
  have HA := Lib.hid haf
  have HC := Lib.hid hca
  have HL1 : Hid (Lies w1 R p c l a1 f1) := H.out.after (by rw [← HM.out]; exact haf)
  have hpos : f1 = 0 → lo ≤ n := by
    intro h0
    rcases HC.out with ⟨h1, h2⟩ | ⟨h1, h2⟩
    · exact absurd (h2.symm.trans h0) h1
    · cases hr : numW lo hi (l.drop a) with
      | bad E => rw [hr] at h2; exact absurd (h2.1.symm.trans h0) h2.2
      | ok v k =>
        rw [hr] at h2
        obtain ⟨_, _, rfl⟩ := h2
        unfold numW Rd.only at hr
        split at hr
        · cases hr
        · split at hr
          · rename_i hc
            simp only [Res.ok.injEq] at hr
            obtain ⟨rfl, rfl⟩ := hr
            simp only [Bool.and_eq_true, decide_eq_true_eq] at hc
            exact hc.1
          · cases hr
  obtain ⟨c0, c1, c2, z1, z2⟩ := haf.r
  have ha1 := haf.le
  clear hn haf hca
  by_cases hf : f1 = 0
  · have hp := hpos hf
    have HF := Lib.hid hf
    subst hf
    obtain ⟨k, rfl⟩ : ∃ k : Nat, n = k := ⟨n.toNat, by omega⟩
    have d0 : ((0 : Int) != 0) = false := rfl
    clear hpos hp
    have hi2 := hi64.2
    clear hi64
    have e3 : IntKind.i64.wrap ((m : Int) - (a1 : Int)) = (m : Int) - (a1 : Int) := by rw [IntWalk.i64_in _ (by omega)]
    by_cases hk : k ≤ m - a1
    · have dk : decide ((m : Int) - (a1 : Int) < (k : Int)) = false := by simp; omega
      obtain ⟨a2, ha2⟩ : ∃ a2, a2 = a1 + k := ⟨_, rfl⟩
      have HA2 := Lib.hid ha2
      have HLE : Hid (a2 ≤ m) := by show _ ≤ _; omega
      have E1 : Hid ((a1 : Int) + (k : Int) = (a2 : Int)) := by show _ = _; omega
      have hadd : a1 + k ≤ 9223372036854775807 := by omega
      clear ha2 hk
      go_wp2
      go_quiet (fail)
      go_wp2_with fail
      obtain ⟨w2, hw2⟩ : ∃ w2, w2 = w1.drewN nq := ⟨_, rfl⟩
      have HF2 : Hid (After w w2 R (.slice p m c) m a1 0) := by show After _ _ _ _ _ _ _; rw [hw2]; exact HA.out.trans (After.drewN HA.out.r HA.out.le nq)
      rw [← hw2]
      clear hw2 c0 c1 c2 z1 z2 e3 dk
      obtain ⟨c0, c1, c2, z1, z2⟩ := HF2.out.r
      go_upto_region 8 with fail
      rw [show _ = _ from E1.out]
      have HF3 : Hid (After w (w2.setCell ⟨R, 1, none⟩ (.int .i64 (a2 : Int))) R (.slice p m c) m a2 0) := HF2.out.at HLE.out
      obtain ⟨w3, hw3⟩ : ∃ w3, w3 = w2.setCell ⟨R, 1, none⟩ (.int .i64 (a2 : Int)) := ⟨_, rfl⟩
      rw [← hw3] at HF3 ⊢
      clear hw3 c0 c1 c2 z1 z2
      obtain ⟨c0, c1, c2, z1, z2⟩ := HF3.out.r
      have e1 : (a2 : Int) - (k : Int) = (a1 : Int) := by have := HA2.out; omega
      have e2 : IntKind.i64.wrap (a1 : Int) = (a1 : Int) := by rw [IntWalk.i64_in _ (by omega)]
      have hYL : Hid (((l.drop a1).take k).length = k) := by show _ = _; rw [List.length_take, List.length_drop]; have := HA2.out; have := HLE.out; have := HM.out; omega
      have m1 : a1 ≤ a2 := by have := HA2.out; omega
      have m2 : a2 ≤ c := by have := HLE.out; omega
      have m3 : a2 - a1 = k := by have := HA2.out; omega
      have HY3 : ∀ n, Byt (w3.drewN n) R (restP p a1 c) ((l.drop a1).take k) := fun n => (((H.out.by_).drop H.out.cp).take k).grown (Lib.grownBy_trans HF3.out.g (grown_drewN w3 n _))
      have hstr : ∀ n, (convert 25 9 (.slice (restP p a1 c) k (c - a1))).run Tryd.prog (w3.drewN n) = .ok (.string ⟨((l.drop a1).take k).toArray⟩) (w3.drewN n) := fun n => by
        have := run_str (HY3 n) (c - a1)
        rw [hYL.out] at this
        exact this
      clear HY3 hadd hcl hcm ha1 hi2
      go_quiet (fail)
      go_wp2
      go_ret
      refine ⟨(l.drop a1).take k, a2, 0, rfl, ?_, by rw [← HM.out]; exact HF3.out.trans (After.drewN HF3.out.r HF3.out.le _), HC.out.andThen (g := fun n : Int => takeN n.toNat) (.inr ⟨rfl, ?_⟩)⟩
      · rw [hYL.out]
        have h1 := H.out.mx
        omega
      · rw [Int.toNat_natCast]
        unfold takeN
        rw [List.length_drop, if_pos (by have := HM.out; have := HLE.out; omega)]
        exact ⟨rfl, HA2.out, rfl⟩
    · have dk : decide ((m : Int) - (a1 : Int) < (k : Int)) = true := by simp; omega
      have HND : Hid (takeN k (l.drop a1) = .bad 30) := by
        show _ = _
        unfold takeN
        rw [List.length_drop, if_neg (by have := HM.out; omega)]
      clear hk
      go_wp2
      go_quiet (fail)
      go_wp2_with fail
      obtain ⟨w2, hw2⟩ : ∃ w2, w2 = w1.drewN nq := ⟨_, rfl⟩
      have HF2 : Hid (After w w2 R (.slice p m c) m a1 0) := by show After _ _ _ _ _ _ _; rw [hw2]; exact HA.out.trans (After.drewN HA.out.r HA.out.le nq)
      rw [← hw2]
      clear hw2 c0 c1 c2 z1 z2 e3 dk
      refine (fault_dem R _ m a1 0 30 w2 HF2.out.r HF2.out.le).mono ?_
      rintro e w3 ⟨rfl, f2, haf2, _, _, hd3⟩
      have HA3 := Lib.hid (HF2.out.trans haf2)
      obtain rfl := (hd3 rfl rfl)
      clear haf2 hd3
      go_wp2
      go_ret
      refine ⟨[], a1, 30, rfl, by simp, by rw [← HM.out]; exact HA3.out, HC.out.andThen (g := fun n : Int => takeN n.toNat) (.inr ⟨rfl, ?_⟩)⟩
      rw [Int.toNat_natCast, HND.out]
      exact ⟨rfl, by decide⟩
  · have d0 : (f1 != 0) = true := by simpa using hf
    have HF := Lib.hid hf
    clear hf hpos hi64
    go_wp2
    go_ret
    exact ⟨[], a1, f1, rfl, by simp, by rw [← HM.out]; exact HA.out, HC.out.andThen (g := fun n : Int => takeN n.toNat) (.inl ⟨HF.out, rfl⟩)⟩
end Go.Proofs.YtlinpkmfjkcoiaaDoor
