/- The laws' own function front. -/
import Derived.Test.YtlinpkmfjkcoiaaDoorG1
namespace Go.Proofs.YtlinpkmfjkcoiaaDoor
open Go Go.RowKit
set_option maxHeartbeats 1000000
set_option linter.unusedVariables false
set_option linter.unusedSimpArgs false
attribute [local go_sem ↓] run_front
theorem dec_ok {w w' : World} {l : List UInt8} {e : Ending} {ev : Evt} {k : Nat} (h : DecIs w l e w') (hr : evtR l = .ok ev k) : Below w.heap.size w w' ∧ ∃ p c, e = .returned (.tuple #[.agg #[.string ev.ty, .int .i64 ev.tm, .slice p ev.vals.length c], .int .i64 k, .int .i64 0]) ∧ ValRow w' p ev.vals := by
  obtain ⟨hb, h⟩ := h
  rw [hr] at h
  obtain ⟨v, he, hn⟩ := h
  obtain ⟨p, c, rfl⟩ := own_form hn
  exact ⟨hb, p, c, he, valrow_of_own hn⟩
theorem dec_bad {w w' : World} {l : List UInt8} {e : Ending} {E : Int} (h : DecIs w l e w') (hr : evtR l = .bad E) : Below w.heap.size w w' ∧ E ≠ 0 ∧ e = .returned (.tuple #[.agg #[.string ⟨#[]⟩, .int .i64 0, .slice none 0 0], .int .i64 0, .int .i64 E]) := by
  obtain ⟨hb, h⟩ := h
  rw [hr] at h
  exact ⟨hb, h.2, h.1⟩
set_option maxRecDepth 100000 in
theorem front_l (l : List UInt8) (p : Option Addr) (c : Nat) (w : World) (h : In w p l) (hc : l.length ≤ c) (hm : c ≤ maxLen) (hK : Kw w) :
    Calls Tryd.prog 12 #[.slice p l.length c] w fun e w' => e = .returned (.bool true) ∧ Below w.heap.size w w' := by
  have HI := Lib.hid h
  have HK := Lib.hid hK
  have hdec := decode_any p c l w h hc hm hK
  have HDEC : Hid (∀ (wx : World) (k : Nat), In wx p (l.take k) → k ≤ l.length → Kw wx → Calls Tryd.prog 17 #[.slice p k c] wx (DecIs wx (l.take k))) := fun wx k h1 h2 h3 => by
    have := decode_any p c (l.take k) wx h1 (by rw [List.length_take]; omega) hm h3
    rw [List.length_take, Nat.min_eq_left h2] at this
    exact this
  have HSAME : Hid (∀ (wx : World) (p1 p2 : Option Addr) (n1 n2 c1 c2 : Nat) (l' : List UInt8), In wx p1 l' → In wx p2 l' → n1 = l'.length → n2 = l'.length → l'.length ≤ maxLen → Calls Tryd.prog 22 #[.slice p1 n1 c1, .slice p2 n2 c2] wx fun e w' => e = .returned (.bool true) ∧ Below wx.heap.size wx w') := fun wx p1 p2 n1 n2 c1 c2 l' h1 h2 e1 e2 hm => by subst e1; subst e2; exact same_true l' p1 p2 c1 c2 wx h1 h2 hm
  obtain ⟨m, hml⟩ : ∃ m, m = l.length := ⟨_, rfl⟩
  have HM := Lib.hid hml
  rw [← hml] at hdec hc ⊢
  unfold maxLen at hm
  clear h hml hK
  go_enter Tryd.func12, Tryd.ntmps12
  go_wp2_with fail
  refine hdec.mono ?_
  intro e w1 hd
  clear hdec
  cases hr : evtR l with
  | bad E =>
    obtain ⟨hb1, hE, rfl⟩ := dec_bad hd hr
    have HB1 := Lib.hid hb1
    have d0 : (E != 0) = true := by simpa using hE
    have HA : Hid (∀ o, Below w.heap.size w (w1.alloc o)) := fun o => HB1.out.alloc HB1.out.size o
    clear hE hr hd hb1
    go_wp2
    go_ret
    exact ⟨rfl, HA.out _⟩
  | ok ev k =>
    obtain ⟨hb1, q, d, rfl, hvr⟩ := dec_ok hd hr
    obtain ⟨hok, hk, htk⟩ := evtR_law.back l ev k hr
    have hlen : (evtW ev).length ≤ 5000 := evtW_len hok
    have hk1 : 1 ≤ k := by
      have h1 := congrArg List.length htk
      rw [List.length_take, Nat.min_eq_left hk] at h1
      have h2 : 1 ≤ (evtW ev).length := by
        unfold evtW textW
        rw [List.length_append, List.length_append]
        have := grp_pos (zig (ev.ty.toList.length : Int))
        unfold put
        omega
      omega
    obtain ⟨ty, tm, vl⟩ := ev
    simp only at hvr ⊢
    have hm16 : vl.length ≤ 16 := hok.2.2.1
    have HENC : Hid (∀ wx pp cc, Kw wx → ValRow wx pp vl → Calls Tryd.prog 16 #[.agg #[.string ty, .int .i64 tm, .slice pp vl.length cc]] wx fun e w' => ∃ q d, e = .returned (.tuple #[.slice q (evtW ⟨ty, tm, vl⟩).length d, .int .i64 0]) ∧ In w' q (evtW ⟨ty, tm, vl⟩) ∧ Below wx.heap.size wx w') := fun wx pp cc h1 h2 => by
      refine (encode_any ty tm vl pp cc wx h1 h2 (by unfold maxLen; omega) (fun v hv => (hok.2.2.2 v hv).2)).mono ?_
      rintro e w' ⟨hb, h | h⟩
      · obtain ⟨_, _, q, d, he, ho⟩ := h
        exact ⟨q, d, he, ho.inn.1, hb⟩
      · exact absurd (encF_ok hok) h.1
    have HTK := Lib.hid htk
    have HKL : Hid (k = (evtW ⟨ty, tm, vl⟩).length) := by show _ = _; rw [← htk, List.length_take, Nat.min_eq_left hk]
    have HSH : Hid (∀ i, i < k → evtR (l.take i) = .bad 30) := fun i hi => by
      have h1 := evtR_law.short ⟨ty, tm, vl⟩ hok i (by rw [← HKL.out]; exact hi)
      rw [← HTK.out, List.take_take, Nat.min_eq_left (by omega)] at h1
      exact h1
    obtain ⟨L, hL⟩ : ∃ L, L = evtW ⟨ty, tm, vl⟩ := ⟨_, rfl⟩
    rw [← hL] at HENC HTK HKL hlen
    obtain ⟨n, hn⟩ : ∃ n, n = vl.length := ⟨_, rfl⟩
    rw [← hn] at HENC ⊢
    have hkm : k ≤ m := by rw [HM.out]; exact hk
    have HB1 := Lib.hid hb1
    have HVR := Lib.hid hvr
    have hb2 : Below w1.heap.size w1 (w1.alloc (.cells #[.string ty, .int .i64 tm, .slice q n d] 24)) := (Below.refl _ _).alloc (Nat.le_refl _) _
    have T1 : Hid (Three (w1.alloc (.cells #[.string ty, .int .i64 tm, .slice q n d] 24)) w1.heap.size ty tm (.slice q n d)) := Three.new w1 ty tm q n d
    have d1 : decide ((k : Int) < 1) = false := by simp; omega
    have d2 : decide (m < k) = false := by simp; omega
    have d2' : decide ((m : Int) < (k : Int)) = false := by simp; omega
    have hkc : k ≤ c := by omega
    clear hr hd hb1 hvr htk hk hok hL hn hm16
    go_upto_region 2 with fail
    obtain ⟨w2, hw2⟩ : ∃ x, x = w1.alloc (.cells #[.string ty, .int .i64 tm, .slice q n d] 24) := ⟨_, rfl⟩
    rw [← hw2] at hb2 T1 ⊢
    obtain ⟨E, hE⟩ : ∃ E, E = w1.heap.size := ⟨_, rfl⟩
    rw [← hE] at T1 ⊢
    have HB2 : Hid (Below w.heap.size w w2) := HB1.out.trans (hb2.mono HB1.out.size)
    have HVR2 := Lib.hid (HVR.out.below hb2)
    clear hw2 hE hb2
    obtain ⟨c0, c1, c2, _, _, _⟩ := T1.out
    go_wp2_with fail
    refine (HENC.out w2 q d (HK.out.below HB2.out) HVR2.out).mono ?_
    rintro e w3 ⟨q3, d3, rfl, hin3, hb3⟩
    have HB3 : Hid (Below w.heap.size w w3) := HB2.out.trans (hb3.mono HB2.out.size)
    have HIN3 := Lib.hid hin3
    have HIK : Hid (In w3 p L) := by have := (HI.out.below HB3.out).take k; rw [HTK.out] at this; exact this
    clear hb3 hin3 c0 c1 c2
    go_wp2_with fail
    refine (HSAME.out w3 q3 p L.length k d3 c L HIN3.out HIK.out rfl HKL.out (by unfold maxLen; omega)).mono ?_
    rintro e w4 ⟨rfl, hb4⟩
    have HB4 : Hid (Below w.heap.size w w4) := HB3.out.trans (hb4.mono HB3.out.size)
    clear hb4
    go_wp2
    go_loopw [8] (fun i wr => ∃ j : Nat, j ≤ k ∧ i = .int .i64 j ∧ Below w.heap.size w wr) (fun i _ => k - (intOf i).toNat)
    case atStart => exact ⟨0, Nat.zero_le _, rfl, HB4.out⟩
    case round =>
      obtain ⟨j, hj, rfl, hb⟩ := hrel
      have HB := Lib.hid hb
      clear hb
      by_cases hlt : j < k
      · have dl : decide (j < k) = true := by simpa using hlt
        have hjc : j ≤ c := by omega
        have hcall := HDEC.out wr j ((HI.out.below HB.out).take j) (by have := HM.out; omega) (HK.out.below HB.out)
        go_wp2_with fail
        refine hcall.mono ?_
        intro e w5 hd5
        obtain ⟨hb5, _, rfl⟩ := dec_bad hd5 (HSH.out j hlt)
        have HB5 : Hid (Below w.heap.size w w5) := HB.out.trans (hb5.mono HB.out.size)
        have HA5 : Hid (∀ o, Below w.heap.size w (w5.alloc o)) := fun o => HB5.out.alloc HB5.out.size o
        clear hb5 hd5 hcall
        go_wp2
        go_roundw
        case rel => exact ⟨j + 1, by omega, by go_num, HA5.out _⟩
        case measure => simp [intOf]; omega
      · have dl : decide (j < k) = false := by simpa using hlt
        go_wp2
        go_ret
        exact ⟨rfl, HB.out⟩
end Go.Proofs.YtlinpkmfjkcoiaaDoor
