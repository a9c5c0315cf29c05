/- The document's own answer's Sum. The document's own answer's Pack. Rows of rows of events that are handed in. The document's own answer's Unpack. -/
import Derived.Test.YtlinpkmfjkcoiaaDoorU3
import Derived.IntWalk
import Derived.Test.YtlinpkmfjkcoiaaDoorT9
import Derived.Test.YtlinpkmfjkcoiaaDoorV4
import Derived.Test.YtlinpkmfjkcoiaaDoorP1
import Derived.Test.YtlinpkmfjkcoiaaDoorT8
namespace Go.Proofs.YtlinpkmfjkcoiaaDoor
open Go Go.RowKit
set_option maxHeartbeats 2000000
set_option linter.unusedVariables false
set_option linter.unusedSimpArgs false
theorem sum_in5 (w : World) (l : List UInt8) : In (w.alloc (.cells #[.int .u8 ((adQ l : Int) / 256), .int .u8 ((adQ l : Int) % 256), .int .u8 ((adP l : Int) / 256), .int .u8 ((adP l : Int) % 256)] 5)) (some ⟨w.heap.size, 0, none⟩) (sumW l) := by
  have a1 := adP_lt l
  have a3 := adQ_lt l
  intro i hi
  rw [sumW_len] at hi
  have e0 : (((UInt8.ofNat (adQ l / 256)).toNat : Nat) : Int) = (adQ l : Int) / 256 := by rw [ofNat_small (by omega)]; omega
  have e1 : (((UInt8.ofNat (adQ l % 256)).toNat : Nat) : Int) = (adQ l : Int) % 256 := by rw [ofNat_small (by omega)]; omega
  have e2 : (((UInt8.ofNat (adP l / 256)).toNat : Nat) : Int) = (adP l : Int) / 256 := by rw [ofNat_small (by omega)]; omega
  have e3 : (((UInt8.ofNat (adP l % 256)).toNat : Nat) : Int) = (adP l : Int) % 256 := by rw [ofNat_small (by omega)]; omega
  refine ⟨w.heap.size, 0, rfl, ?_⟩
  have hc : i = 0 ∨ i = 1 ∨ i = 2 ∨ i = 3 := by omega
  rcases hc with rfl | rfl | rfl | rfl
  · simp only [sumW, List.getElem_cons_zero]; rw [e0]; simp [go_sem]
  · simp only [sumW, List.getElem_cons_succ, List.getElem_cons_zero]; rw [e1]; simp [go_sem]
  · simp only [sumW, List.getElem_cons_succ, List.getElem_cons_zero]; rw [e2]; simp [go_sem]
  · simp only [sumW, List.getElem_cons_succ, List.getElem_cons_zero]; rw [e3]; simp [go_sem]
set_option maxRecDepth 100000 in
theorem refSum_any (p : Option Addr) (c : Nat) (l : List UInt8) (w : World) (h : In w p l) (hm : l.length ≤ maxLen) : Calls Tryd.prog 70 #[.slice p l.length c] w fun e w' => ∃ g, e = .returned (.slice (some ⟨g, 0, none⟩) 4 4) ∧ In w' (some ⟨g, 0, none⟩) (sumW l) ∧ Below w.heap.size w w' := by
  obtain ⟨n, hn⟩ : ∃ n, n = l.length := ⟨_, rfl⟩
  have HN := Lib.hid hn
  rw [← hn] at hm ⊢
  have HI := Lib.hid h
  unfold maxLen at hm
  clear h hn
  go_enter Tryd.func70, Tryd.ntmps70
  go_wp2
  go_loopw [3, 4, 5] (fun pv qv i wr => ∃ (k P Q : Nat), k ≤ n ∧ i = .int .i64 k ∧ pv = .int .i64 P ∧ qv = .int .i64 Q ∧ wr = w ∧ P = adP (l.take k) ∧ Q = adQ (l.take k)) (fun _ _ i _ => n - (intOf i).toNat)
  case atStart => exact ⟨0, 1, 0, Nat.zero_le _, rfl, rfl, rfl, rfl, rfl, rfl⟩
  case round =>
    obtain ⟨k, P, Q, hk, rfl, rfl, rfl, rfl, hP, hQ⟩ := hrel
    have HP := Lib.hid hP
    have HQQ := Lib.hid hQ
    have hP1 : P < 65521 := by rw [hP]; exact adP_lt _
    have hQ1 : Q < 65521 := by rw [hQ]; exact adQ_lt _
    clear hP hQ
    by_cases hlt : k < n
    · have hkl : k < l.length := by rw [← HN.out]; exact hlt
      obtain ⟨b, o, rfl, d⟩ := HI.out k hkl
      obtain ⟨x, hx⟩ : ∃ x, x = l[k] := ⟨_, rfl⟩
      rw [← hx] at d
      have HT : Hid (l.take (k + 1) = l.take k ++ [x]) := by show _ = _; rw [hx]; exact take_snoc hkl
      have hx8 : (x.toNat : Int) < 256 := by have := x.toNat_lt; omega
      have hx0 : x.toNat < 256 := x.toNat_lt
      obtain ⟨P2, hP2⟩ : ∃ P2, P2 = (P + x.toNat) % 65521 := ⟨_, rfl⟩
      obtain ⟨Q2, hQ2⟩ : ∃ Q2, Q2 = (Q + P2) % 65521 := ⟨_, rfl⟩
      have HP2 : Hid (P2 = adP (l.take (k + 1))) := by show _ = _; rw [HT.out, adP_snoc, ← show P = _ from HP.out, hP2]
      have HQ2 : Hid (Q2 = adQ (l.take (k + 1))) := by show _ = _; rw [HT.out, adQ_snoc, ← show Q = _ from HQQ.out, ← HT.out, ← show P2 = _ from HP2.out, hQ2]
      have hP3 : P2 < 65521 := by omega
      have E1 : Hid (((P : Int) + (x.toNat : Int)) % 65521 = (P2 : Int)) := by show _ = _; omega
      have E2 : Hid (((Q : Int) + (P2 : Int)) % 65521 = (Q2 : Int)) := by show _ = _; omega
      clear hkl hx hP2 hQ2
      go_upto_region 6 with fail
      rw [show _ = _ from E1.out]
      go_wp2
      go_roundw
      case rel => exact ⟨k + 1, P2, Q2, by omega, by go_num, by first | rfl | rw [E1.out], by first | rfl | rw [E2.out] | rw [E1.out, E2.out], by first | rfl | trivial, HP2.out, HQ2.out⟩
      case measure => simp [intOf]; omega
    · have hkk : k = n := by omega
      subst hkk
      have HL : Hid (l.take k = l) := by show _ = _; rw [HN.out, List.take_of_length_le (Nat.le_refl _)]
      have e1 := HP.out
      have e2 := HQQ.out
      rw [HL.out] at e1 e2
      have HE1 := Lib.hid e1
      have HE2 := Lib.hid e2
      have hin := sum_in5 wr l
      rw [← e1, ← e2] at hin
      have HIN := Lib.hid hin
      clear e1 e2 hin
      go_wp2
      go_ret
      exact ⟨_, rfl, HIN.out, (Below.refl _ _).alloc (Nat.le_refl _) _⟩
end Go.Proofs.YtlinpkmfjkcoiaaDoor
namespace Go.Proofs.YtlinpkmfjkcoiaaDoor
open Go Go.RowKit
set_option maxHeartbeats 4000000
set_option linter.unusedVariables false
set_option linter.unusedSimpArgs false
set_option maxRecDepth 100000 in
theorem refPack_any (es : List Evt) (p : Option Addr) (c : Nat) (w : World) (hr : EvtRow w p es) (hin : ∀ e ∈ es, InE e) (hm : es.length ≤ maxLen) :
    Calls Tryd.prog 36 #[.slice p es.length c] w (PackIs w es) := by
  obtain ⟨i0, hi5, hz0, hz1, hz2⟩ := info_parts infoByte
  obtain ⟨n, hn⟩ : ∃ n, n = es.length := ⟨_, rfl⟩
  rw [← hn] at hm ⊢
  have HN := Lib.hid hn
  have HR := Lib.hid hr
  have HIN := Lib.hid hin
  unfold maxLen at hm
  clear hn hr hin
  by_cases h1 : 1024 < n
  · have d1 : decide ((1024 : Int) < (n : Int)) = true := by simp; omega
    have HF : Hid (packF es = 2) := by show _ = _; unfold packF; rw [if_pos (by rw [← HN.out]; exact h1)]
    clear h1
    go_enter Tryd.func36, Tryd.ntmps36
    go_wp2
    first | go_ret2 | skip
    exact ⟨Below.refl _ _, .inr ⟨by rw [HF.out]; decide, by rw [HF.out]; rfl⟩⟩
  · have d1 : decide ((1024 : Int) < (n : Int)) = false := by simp; omega
    have HNI : Hid (I64 (n : Int)) := by show I64 _; unfold I64; omega
    have HF1 : Hid (packF es = if firstF es = 0 then (if 1048576 < (bodyW es).length + 4 then 2 else 0) else firstF es) := by show _ = _; unfold packF; rw [if_neg (by rw [← HN.out]; omega)]
    go_enter Tryd.func36, Tryd.ntmps36
    go_wp2_with fail
    refine (refPut_any _ HNI.out _).mono ?_
    rintro e w1 ⟨p1, k1, rfl, ho1, hw1⟩
    have HB1 : Hid (Below w.heap.size w w1) := hw1.below (Out.nil _ _) (Nat.le_refl _)
    have HO1 := Lib.hid ho1
    obtain ⟨L, hL⟩ : ∃ L, L = put (n : Int) := ⟨_, rfl⟩
    rw [← hL] at HO1 ⊢
    have HL := Lib.hid hL
    have HL10 : Hid (L.length ≤ 10) := by rw [hL]; exact put_len HNI.out
    have HBW : Hid (bodyW es = L ++ evsW es) := by show _ = _; unfold bodyW; rw [hL, HN.out]
    clear ho1 hw1 hL
    go_wp2
    go_loopw [4, 5] (fun ov iv wr => ∃ (k : Nat) (q : Option Addr) (m d : Nat), k ≤ n ∧ iv = .int .i64 k ∧ ov = .slice q m d ∧ m = (L ++ evsW (es.take k)).length ∧ Out wr w.heap.size (.slice q m d) (L ++ evsW (es.take k)) ∧ Below w.heap.size w wr ∧ ∀ e ∈ es.take k, OkE e) (fun _ iv _ => n - (intOf iv).toNat)
    case atStart => exact ⟨0, p1, L.length, k1, Nat.zero_le _, rfl, rfl, by simp [evsW], by simpa [evsW] using HO1.out, HB1.out, by simp⟩
    case round =>
      obtain ⟨k, q, m, d, hk, rfl, rfl, hml, ho, hb, hall⟩ := hrel
      have HBL := Lib.hid hb
      have HA := Lib.hid hall
      obtain ⟨lk, hlk⟩ : ∃ lk, lk = L ++ evsW (es.take k) := ⟨_, rfl⟩
      rw [← hlk] at ho hml
      have HOL := Lib.hid ho
      have HLK := Lib.hid hlk
      have HML := Lib.hid hml
      have LKL : Hid (lk.length ≤ 5120010) := by
        have h2 : (es.take k).length ≤ 1024 := by rw [List.length_take]; omega
        have h3 := evsW_len hall
        have h4 := HL10.out
        show _ ≤ _
        rw [hlk, List.length_append]
        have : 5000 * (es.take k).length ≤ 5000 * 1024 := Nat.mul_le_mul_left _ h2
        omega
      have hsl := hb.size
      clear ho hml hlk hb hall
      by_cases hlt : k < n
      · have hkl : k < es.length := by rw [← HN.out]; exact hlt
        have HKL := Lib.hid hkl
        obtain ⟨ty, tm, vl, b, o, qv, dv, hev, rfl, c0, c1, c2, hvr⟩ := (HR.out.below HBL.out).nth hkl
        have HEV := Lib.hid hev
        have hie : InE ⟨ty, tm, vl⟩ := by rw [hev]; exact HIN.out _ (List.getElem_mem hkl)
        have HIE := Lib.hid hie
        have hvm : vl.length ≤ maxLen := by have := hie.2.1; unfold maxLen; simp only at this; omega
        have hEN := refEncode_any ty tm hie.1 vl qv dv wr hvr hvm hie.2.2
        obtain ⟨vn, hvn⟩ : ∃ vn, vn = vl.length := ⟨_, rfl⟩
        rw [← hvn] at hEN c2
        clear hvn hie hev hvr hvm
        go_wp2_with fail
        refine hEN.mono ?_
        rintro e w4 ⟨hb4, h4⟩
        have HB4 : Hid (Below w.heap.size w w4) := HBL.out.trans (hb4.mono HBL.out.size)
        have HO4 := Lib.hid (HOL.out.below hb4)
        clear c0 c1 c2 hEN
        rcases h4 with ⟨hF, hok, q4, d4, rfl, ho4⟩ | ⟨hF, rfl⟩
        · have HOKE := Lib.hid hok
          have HI4 := Lib.hid ho4.inn.1
          have HZ4 := Lib.hid ho4.nilcap
          have hel : (evtW ⟨ty, tm, vl⟩).length ≤ 5000 := evtW_len hok
          obtain ⟨ev, hevw⟩ : ∃ ev, ev = evtW ⟨ty, tm, vl⟩ := ⟨_, rfl⟩
          rw [← hevw] at hel HI4 ⊢
          have HEVW := Lib.hid hevw
          obtain ⟨en, hen⟩ : ∃ en, en = ev.length := ⟨_, rfl⟩
          rw [← hen]
          have HENL := Lib.hid hen
          have hm1 : Hid (lk.length + ev.length ≤ maxLen) := by have := LKL.out; show _ ≤ _; unfold maxLen; omega
          have hm2 : Hid (lk.length + ev.length ≤ 140737488355328) := by have := LKL.out; show _ ≤ _; omega
          have HN5 : Hid (m + en = lk.length + ev.length) := by show _ = _; rw [← show m = _ from HML.out, hen]
          have HS4 : Hid (w.heap.size ≤ w4.heap.size) := HB4.out.size
          clear hb4 hF hok ho4 hel hevw hen
          go_wp2_with (at_builtin; refine wpList_cat rfl _ _ rfl w.heap.size i0 hi5 hz0 hz1 hz2 _ lk rfl HO4.out q4 d4 en ev HENL.out rfl HI4.out HZ4.out hm1.out hm2.out HS4.out (m + en) HN5.out ?_)
          intro p5 k5 w5 hO5 hW5
          have HO5 := Lib.hid hO5
          have HB5 : Hid (Below w.heap.size w w5) := HB4.out.trans (hW5.below HO4.out HS4.out)
          have HEQ : Hid (L ++ evsW (es.take (k + 1)) = lk ++ ev) := by show _ = _; rw [evsW_take HKL.out, HLK.out, ← show _ = _ from HEV.out, List.append_assoc, HEVW.out]
          have HALL : Hid (∀ e ∈ es.take (k + 1), OkE e) := by
            show ∀ _, _
            intro e he
            rw [List.take_add_one, List.getElem?_eq_getElem HKL.out] at he
            simp only [List.mem_append, Option.toList_some, List.mem_singleton] at he
            rcases he with he | rfl
            · exact HA.out e he
            · rw [← show _ = _ from HEV.out]; exact HOKE.out
          clear hO5 hW5
          go_wp2
          go_roundw
          case rel => exact ⟨k + 1, p5, m + en, k5, by omega, by go_num, rfl, by rw [HEQ.out, HN5.out, List.length_append], by rw [HEQ.out]; exact HO5.out, HB5.out, HALL.out⟩
          case measure => simp [intOf]; omega
        · simp only at hF
          have HP : Hid (packF es = encF ty.toList tm vl) := by
            show _ = _
            have h1 : firstF es = encF ty.toList tm vl := by
              rw [firstF_at HKL.out HA.out (by rw [← show _ = _ from HEV.out]; exact hF), ← show _ = _ from HEV.out]
            rw [HF1.out, h1, if_neg hF]
          obtain ⟨F, hFF⟩ : ∃ F, F = encF ty.toList tm vl := ⟨_, rfl⟩
          simp only
          rw [← hFF] at HP hF ⊢
          have dF : (F != 0) = true := by simpa using hF
          have HF0 := Lib.hid hF
          clear hF hFF hb4
          go_wp2
          first | go_ret2 | skip
          exact ⟨HB4.out, .inr ⟨by rw [HP.out]; exact HF0.out, by rw [HP.out]; rfl⟩⟩
      · have hkk : k = n := by omega
        have HBD : Hid (bodyW es = lk) := by show _ = _; rw [HBW.out, HLK.out, hkk, HN.out, List.take_of_length_le (Nat.le_refl _)]
        have HALL : Hid (∀ e ∈ es, OkE e) := by
          show ∀ _, _
          intro e he
          exact HA.out e (by rw [hkk, HN.out, List.take_of_length_le (Nat.le_refl _)]; exact he)
        have HF0 : Hid (packF es = if 1048576 < lk.length + 4 then 2 else 0) := by show _ = _; rw [HF1.out, firstF_of HALL.out, if_pos rfl, HBD.out]
        have HW : Hid (packW es = lk ++ sumW lk) := by show _ = _; unfold packW; rw [HBD.out]
        have HWL : Hid ((packW es).length = lk.length + 4) := by show _ = _; rw [HW.out, List.length_append, sumW_len]
        clear hkk
        obtain rfl := HML.out
        have hsum := refSum_any q d lk wr HOL.out.inn.1 (by have := LKL.out; unfold maxLen; omega)
        obtain ⟨ln, hln⟩ : ∃ ln, ln = lk.length := ⟨_, rfl⟩
        rw [← hln] at hsum ⊢
        have HLN := Lib.hid hln
        have hl5 : ln ≤ 5120010 := by rw [hln]; exact LKL.out
        clear hln
        go_wp2_with fail
        refine hsum.mono ?_
        rintro e w3 ⟨G, rfl, hin3, hb3⟩
        have HB3 : Hid (Below w.heap.size w w3) := HBL.out.trans (hb3.mono HBL.out.size)
        have HO3 : Hid (Out w3 w.heap.size (.slice q ln d) lk) := by show Out _ _ _ _; rw [show ln = _ from HLN.out]; exact HOL.out.below hb3
        have HI3 := Lib.hid hin3
        have hm1 : lk.length + (sumW lk).length ≤ maxLen := by rw [sumW_len, ← show ln = _ from HLN.out]; unfold maxLen; omega
        have hm2 : lk.length + (sumW lk).length ≤ 140737488355328 := by rw [sumW_len, ← show ln = _ from HLN.out]; omega
        have hs3 : w.heap.size ≤ w3.heap.size := HB3.out.size
        have HN4 : Hid (ln + 4 = lk.length + (sumW lk).length) := by show _ = _; rw [sumW_len, ← show ln = _ from HLN.out]
        clear hin3 hb3 hsum
        go_wp2_with (at_builtin; refine wpList_cat rfl _ _ rfl w.heap.size i0 hi5 hz0 hz1 hz2 _ lk rfl HO3.out (some ⟨G, 0, none⟩) 4 4 (sumW lk) rfl rfl HI3.out (fun h => (by cases h)) hm1 hm2 hs3 (ln + 4) HN4.out ?_)
        intro q4 d4 w4 hO4 hW4
        have HO4 := Lib.hid hO4
        have HB4 : Hid (Below w.heap.size w w4) := HB3.out.trans (hW4.below HO3.out hs3)
        have HOKB : Hid (OkB es) := ⟨by rw [← HN.out]; omega, HALL.out⟩
        clear hO4 hW4
        by_cases hbig : 1048576 < ln + 4
        · have HP : Hid (packF es = 2) := by show _ = _; rw [HF0.out, if_pos (by rw [← show ln = _ from HLN.out]; exact hbig)]
          have d2 : decide ((1048576 : Int) < (ln : Int) + 4) = true := by simp; omega
          go_wp2
          first | go_ret2 | skip
          exact ⟨HB4.out, .inr ⟨by rw [HP.out]; decide, by rw [HP.out]; rfl⟩⟩
        · have HP : Hid (packF es = 0) := by show _ = _; rw [HF0.out, if_neg (by rw [← show ln = _ from HLN.out]; exact hbig)]
          have d2 : decide ((1048576 : Int) < (ln : Int) + 4) = false := by simp; omega
          have HSM : Hid (ln + 4 ≤ 1048576) := by show _ ≤ _; omega
          go_wp2
          first | go_ret2 | skip
          refine ⟨HB4.out, .inl ⟨HP.out, HOKB.out, by rw [HWL.out, ← show ln = _ from HLN.out]; exact HSM.out, q4, d4, ?_, ?_⟩⟩
          · rw [HWL.out, ← show ln = _ from HLN.out]; rfl
          · rw [HWL.out, ← show ln = _ from HLN.out, HW.out]; exact HO4.out
end Go.Proofs.YtlinpkmfjkcoiaaDoor
namespace Go.Proofs.YtlinpkmfjkcoiaaDoor
open Go Go.ChangeShapes Go.WideShapes Go.ChangeAt Go.RowKit Go.Deep
set_option maxHeartbeats 1000000
set_option linter.unusedVariables false
set_option linter.unusedSimpArgs false
set_option maxRecDepth 100000 in
theorem events_w {H : Type} {enc : TypeId × Value → H} {w : World} {held : Bool} {fuel : Nat} {v : Value} {x : DataW H × List MemPlace} (hf : DataW.trod enc Tryd.prog w 0 (fun _ => true) held fuel 38 [v] = some x) (hs : ∀ n ∈ x.1.weights Tryd.prog 38, n ≤ reachBytes) :
    ∃ (p : Option Addr) (len cap : Nat), v = .slice p len cap ∧ len * 48 ≤ 140737488351232 ∧ Evts w p len := by
  rcases open_slice Tryd.underlying38 hf with ⟨h0, _⟩ | ⟨a, l, c, m, n, D, Pl, h0, _, hl, hm, hmm, hx, hi⟩
  · simp only [List.cons.injEq, and_true] at h0
    exact ⟨none, 0, 0, h0, by omega, fun i hi => absurd hi (Nat.not_lt_zero _)⟩
  · simp only [List.cons.injEq, and_true] at h0
    refine ⟨_, _, _, h0, ?_, ?_⟩
    · have hre : reachBytes = 140737488351232 := by decide
      have hby : Tryd.prog.bytesOf 24 = 48 := by kernel_rfl
      have hd := congrArg Prod.fst hx
      simp only at hd
      rw [hd] at hs
      have := hs ((l + (m - l)) * 48) (by
        unfold DataW.weights
        rw [Tryd.underlying38]
        simp only [hby]
        refine List.mem_cons.2 (.inl ?_)
        simp)
      rw [hre] at this
      have h2 : l * 48 ≤ (l + (m - l)) * 48 := Nat.mul_le_mul_right _ (by omega)
      omega
    · have hc3 : Tryd.prog.cellsOf 24 = 3 := by kernel_rfl
      have hd := congrArg Prod.fst hx
      simp only at hd
      have hwt : ∀ i, i < l → ∀ n ∈ (D i).weights Tryd.prog 24, n ≤ reachBytes := fun i him n hn => hs n (by
        rw [hd]
        unfold DataW.weights
        rw [Tryd.underlying38]
        exact List.mem_cons_of_mem _ (List.mem_append_left _ (weightsAll_mem (List.mem_map.2 ⟨i, List.mem_range.2 him, rfl⟩) n hn)))
      have each : ∀ i, i < l → ∃ (ty : ByteArray) (tm : Int) (q : Option Addr) (vl : List V4) (d : Nat), w.cell? (a.add (i * 3)) = some (.string ty) ∧ w.cell? (a.add (i * 3 + 1)) = some (.int .i64 tm) ∧ w.cell? (a.add (i * 3 + 2)) = some (.slice q vl.length d) ∧ I64 tm ∧ vl.length * 40 ≤ 140737488351232 ∧ ValRow w q vl ∧ ∀ u ∈ vl, In4 u := by
        intro i him
        obtain ⟨cs', hc, ht⟩ := hi i (by split at hmm <;> omega)
        obtain ⟨_, hcl, hat⟩ := World.cells?_some hc
        rw [hc3] at hat
        obtain ⟨ty, tm, q, vl, d, g0, g1, g2, a1, a2, a3, a4⟩ := event_cells ht (hwt i him)
        have x0 := (hat 0 (by omega)).trans g0
        have x1 := (hat 1 (by omega)).trans g1
        have x2 := (hat 2 (by omega)).trans g2
        obtain ⟨cs0, hc0, ht0⟩ := hi 0 (by split at hmm <;> omega)
        obtain ⟨_, _, hat0⟩ := World.cells?_some hc0
        obtain ⟨_, _, _, _, _, g00, _⟩ := event_cells ht0 (hwt 0 (by omega))
        have y0 := (hat0 0 (by rw [hc3]; omega)).trans g00
        obtain ⟨b, o, spot⟩ := a
        have hspot : spot = none := by simpa [Addr.add] using World.cell?_spot y0
        subst hspot
        have ha : ∀ j, ((⟨b, o, none⟩ : Addr).add (i * 3)).add j = (⟨b, o, none⟩ : Addr).add (i * 3 + j) := by
          intro j
          rw [Addr.add_lit, Addr.add_lit, Addr.add_lit, Nat.add_assoc]
        rw [ha] at x0 x1 x2
        exact ⟨ty, tm, q, vl, d, x0, x1, x2, a1, a2, a3, a4⟩
      intro i him
      obtain ⟨ty, tm, q, vl, d, x0, x1, x2, a1, a2, a3, a4⟩ := each i him
      obtain ⟨_, _, _, _, _, y0, _⟩ := each 0 (by omega)
      obtain ⟨b, o, spot⟩ := a
      have hspot : spot = none := by simpa [Addr.add] using World.cell?_spot y0
      subst hspot
      rw [Addr.add_lit] at x0 x1 x2
      exact ⟨b, o, ty, tm, q, vl, d, rfl, by simpa using x0, by simpa [Nat.add_assoc] using x1, by simpa [Nat.add_assoc] using x2, a1, a2, a3, a4⟩
/-- batches lie there -/
def Bats (w : World) (p : Option Addr) (n : Nat) : Prop := ∀ i, i < n → ∃ (b o : Nat) (q : Option Addr) (es : List Evt) (d : Nat), p = some ⟨b, o, none⟩ ∧ w.cell? ⟨b, o + i, none⟩ = some (.slice q es.length d) ∧ EvtRow w q es ∧ (∀ e ∈ es, InE e) ∧ es.length * 48 ≤ 140737488351232
theorem Bats.below {w w' : World} {p : Option Addr} {n : Nat} (h : Bats w p n) (hb : Below w.heap.size w w') : Bats w' p n := by
  intro i hi
  obtain ⟨b, o, q, es, d, e, c0, h1, h2, h3⟩ := h i hi
  exact ⟨b, o, q, es, d, e, (hb.cell (p := ⟨b, o + i, none⟩) (lt_of_cell c0)).trans c0, h1.below hb, h2, h3⟩
set_option maxRecDepth 100000 in
theorem open_batches {H : Type} {enc : TypeId × Value → H} {w : World} {held : Bool} {v : Value} {d : DataW H} {ps : List MemPlace} {r : Reach} {b0 : Nat} (hv : Value.okWide Tryd.prog w r b0 56 v)
    (h : DataW.Trod enc Tryd.prog w 0 (fun _ => true) held 56 v d ps) (hs : ∀ n ∈ d.weights Tryd.prog 56, n ≤ reachBytes) : ∃ p len cap, v = .slice p len cap ∧ len ≤ maxLen ∧ Bats w p len := by
  obtain ⟨p, len, cap, rfl⟩ := okWide_slice Tryd.underlying56 hv
  obtain ⟨fuel, hf⟩ := h
  simp only [Value.cells] at hf
  refine ⟨p, len, cap, rfl, ?_⟩
  rcases open_slice Tryd.underlying56 hf with ⟨h0, _⟩ | ⟨a, l, c, m, n, D, Pl, h0, _, hl, hm, hmm, hx, hi⟩
  · simp only [List.cons.injEq, Value.slice.injEq, and_true] at h0
    obtain ⟨rfl, rfl, rfl⟩ := h0
    exact ⟨Nat.zero_le _, fun i hi => absurd hi (Nat.not_lt_zero _)⟩
  · simp only [List.cons.injEq, Value.slice.injEq, and_true] at h0
    obtain ⟨rfl, rfl, rfl⟩ := h0
    have hc1 : Tryd.prog.cellsOf 38 = 1 := by kernel_rfl
    simp only [if_true] at hmm
    have hd := congrArg Prod.fst hx
    simp only at hd
    have hwt : ∀ i, i < len → ∀ n ∈ (D i).weights Tryd.prog 38, n ≤ reachBytes := fun i him n hn => hs n (by
      rw [hd]
      unfold DataW.weights
      rw [Tryd.underlying56]
      exact List.mem_cons_of_mem _ (List.mem_append_left _ (weightsAll_mem (List.mem_map.2 ⟨i, List.mem_range.2 him, rfl⟩) n hn)))
    have each : ∀ i, i < len → ∃ (q : Option Addr) (es : List Evt) (d : Nat), w.cell? (a.add i) = some (.slice q es.length d) ∧ EvtRow w q es ∧ (∀ e ∈ es, InE e) ∧ es.length * 48 ≤ 140737488351232 := by
      intro i him
      obtain ⟨cs', hc, ht⟩ := hi i (by omega)
      obtain ⟨_, hcl, hat⟩ := World.cells?_some hc
      rw [hc1] at hcl hat
      obtain ⟨u, hu⟩ : ∃ u, cs' = [u] := by
        cases cs' with
        | nil => simp at hcl
        | cons u t =>
          cases t with
          | nil => exact ⟨u, rfl⟩
          | cons _ _ => simp at hcl
      subst hu
      obtain ⟨q, ln, d, rfl, h48, hev⟩ := events_w ht (hwt i him)
      obtain ⟨es, hes, hrow, hin⟩ := hev.row
      subst hes
      have x0 := hat 0 (by omega)
      have e0 : (a.add i).add 0 = a.add i := by generalize a.add i = z; simp [Addr.add]
      rw [Nat.mul_one, e0] at x0
      exact ⟨q, es, d, x0, hrow, hin, h48⟩
    refine ⟨Nat.le_trans hl hm, fun i him => ?_⟩
    obtain ⟨q, es, d, x0, a1, a2, a3⟩ := each i him
    obtain ⟨_, _, _, y0, _⟩ := each 0 (by omega)
    obtain ⟨b, o, spot⟩ := a
    have hspot : spot = none := by simpa [Addr.add] using World.cell?_spot y0
    subst hspot
    rw [Addr.add_lit] at x0
    exact ⟨b, o, q, es, d, rfl, x0, a1, a2, a3⟩
end Go.Proofs.YtlinpkmfjkcoiaaDoor
namespace Go.Proofs.YtlinpkmfjkcoiaaDoor
open Go Go.RowKit
set_option maxHeartbeats 4000000
set_option linter.unusedVariables false
set_option linter.unusedSimpArgs false
attribute [local go_sem ↓] run_front run_rest
theorem body_bad {bd : List UInt8} {E : Int} (h : num bd = .bad E) : bodyR bd = .bad E := by
  unfold bodyR Rd.andThen numW Rd.only
  rw [h]
theorem body_out {bd : List UInt8} {v : Int} {k : Nat} (h : num bd = .ok v k) (hv : v < 0 ∨ 1024 < v) : bodyR bd = .bad 31 := by
  unfold bodyR Rd.andThen numW Rd.only
  rw [h]
  simp only
  rw [if_neg (by simp; omega)]
theorem body_in {bd : List UInt8} {v : Int} {k : Nat} (h : num bd = .ok v k) (h0 : 0 ≤ v) (h1 : v ≤ 1024) : bodyR bd = match evsR v.toNat (bd.drop k) with | .bad E => .bad E | .ok es j => .ok es (k + j) := by
  unfold bodyR Rd.andThen numW Rd.only
  rw [h]
  simp only
  rw [if_pos (by simp; omega)]
  simp only
  cases evsR v.toNat (bd.drop k) <;> rfl
theorem EvsOwn.blw {w w' : World} {B : Nat} {v : Value} {rows : List (Evt × Value)} (h : EvsOwn w B v rows) (hb : Below w.heap.size w w') : EvsOwn w' B v rows := by
  have hg : w.grownBy w' none := ⟨hb.os, hb.tape, hb.output, hb.size, fun i hi _ => hb.block i hi⟩
  have key : ∀ {ty : TypeId} {sz n : Nat} {u : Value} {xs : List Value}, w.ownsRow B ty sz u n xs → w'.ownsRow B ty sz u n xs := fun {ty sz n u xs} h => by
    refine World.ownsRow.kept h hg ?_
    rcases h.2 with ⟨rfl, _⟩ | ⟨g, cap, cur, rfl, _⟩
    · exact .inl rfl
    · exact .inr (by simp [Value.ownBlock])
  exact ⟨key h.own, fun x hx => key (h.each x hx)⟩
set_option maxRecDepth 100000 in
theorem refUnpack_short (p : Option Addr) (c : Nat) (l : List UInt8) (w : World) (h : 1048576 < l.length ∨ l.length < 5) : Calls Tryd.prog 37 #[.slice p l.length c] w (UnpIs w l) := by
  have HF : Hid (unpackR l = .bad (if 1048576 < l.length then 2 else 30)) := by
    show _ = _
    unfold unpackR
    by_cases h6 : 1048576 < l.length
    · rw [if_pos h6, if_pos h6]
    · rw [if_neg h6, if_neg h6, if_pos (by omega)]
  obtain ⟨n, hn⟩ : ∃ n, n = l.length := ⟨_, rfl⟩
  rw [← hn] at h HF ⊢
  clear hn
  by_cases h6 : 1048576 < n
  · have d1 : decide ((1048576 : Int) < (n : Int)) = true := by simp; omega
    rw [if_pos h6] at HF
    clear h h6
    go_enter Tryd.func37, Tryd.ntmps37
    go_wp2
    first | go_ret2 | skip
    exact ⟨Below.refl _ _, by rw [HF.out]; exact ⟨rfl, by decide⟩⟩
  · have d1 : decide ((1048576 : Int) < (n : Int)) = false := by simp; omega
    have d2 : decide ((n : Int) < 5) = true := by simp; omega
    rw [if_neg h6] at HF
    clear h h6
    go_enter Tryd.func37, Tryd.ntmps37
    go_wp2
    first | go_ret2 | skip
    exact ⟨Below.refl _ _, by rw [HF.out]; exact ⟨rfl, by decide⟩⟩
set_option maxRecDepth 100000 in
theorem refUnpack_long (p : Option Addr) (c : Nat) (l : List UInt8) (w : World) (h : In w p l) (hc : l.length ≤ c) (hm : c ≤ maxLen) (h5 : ¬ l.length < 5) (h6 : ¬ 1048576 < l.length) : Calls Tryd.prog 37 #[.slice p l.length c] w (UnpIs w l) := by
  obtain ⟨i0, hi, hz0, hz1, hz2⟩ := info_parts infoEvt
  have HFS : Hid (¬ sumW (l.take (l.length - 4)) = l.drop (l.length - 4) → unpackR l = .bad 32) := by show _ → _; intro hs; unfold unpackR; rw [if_neg h6, if_neg h5, if_neg hs]
  have HFB : Hid (∀ E, sumW (l.take (l.length - 4)) = l.drop (l.length - 4) → bodyR (l.take (l.length - 4)) = .bad E → unpackR l = .bad E) := by show ∀ _, _; intro E hs hE; unfold unpackR; rw [if_neg h6, if_neg h5, if_pos hs, hE]
  have HFO : Hid (∀ es k, sumW (l.take (l.length - 4)) = l.drop (l.length - 4) → bodyR (l.take (l.length - 4)) = .ok es k → unpackR l = if k = l.length - 4 then .ok es 0 else .bad 31) := by show ∀ _, _; intro es k hs hE; unfold unpackR; rw [if_neg h6, if_neg h5, if_pos hs, hE]
  have hby : Byt w w.heap.size p l := h.byt (Below.refl _ _) (Nat.le_refl _)
  have hdr := hby.drop (a := l.length - 4) hc
  have hdrl : (l.drop (l.length - 4)).length = 4 := by rw [List.length_drop]; omega
  have HSUM : Hid (∀ wx, Below w.heap.size w wx → Calls Tryd.prog 70 #[.slice p (l.length - 4) c] wx fun e w' => ∃ g, e = .returned (.slice (some ⟨g, 0, none⟩) 4 4) ∧ In w' (some ⟨g, 0, none⟩) (sumW (l.take (l.length - 4))) ∧ Below wx.heap.size wx w') := fun wx hx => by
    have := refSum_any p c (l.take (l.length - 4)) wx ((In.take h (l.length - 4)).below hx) (by rw [List.length_take]; omega)
    rw [List.length_take, Nat.min_eq_left (by omega)] at this
    exact this
  have HSAM : Hid (∀ wx g, Below w.heap.size w wx → In wx (some ⟨g, 0, none⟩) (sumW (l.take (l.length - 4))) → Calls Tryd.prog 54 #[.slice (some ⟨g, 0, none⟩) 4 4, .slice (restP p (l.length - 4) c) 4 (c - (l.length - 4))] wx fun e w' => e = .returned (.bool (sumW (l.take (l.length - 4)) == l.drop (l.length - 4))) ∧ Below wx.heap.size wx w') := fun wx g hx hg => by
    have hin2 : In w (restP p (l.length - 4) c) (l.drop (l.length - 4)) := fun i hi => by
      obtain ⟨b, o, e, _, cc⟩ := hdr i hi
      exact ⟨b, o, e, cc⟩
    have := refSame_any _ _ (some ⟨g, 0, none⟩) (restP p (l.length - 4) c) 4 (c - (l.length - 4)) wx hg (hin2.below hx) (by rw [sumW_len]; unfold maxLen; omega) (by rw [hdrl]; unfold maxLen; omega)
    rw [sumW_len, hdrl] at this
    exact this
  have HIN := Lib.hid (In.take h (l.length - 4))
  have HLT : Hid ((l.take (l.length - 4)).length = l.length - 4) := by show _ = _; rw [List.length_take]; omega
  obtain ⟨bd, hbd⟩ : ∃ bd, bd = l.take (l.length - 4) := ⟨_, rfl⟩
  obtain ⟨k4, hk4⟩ : ∃ k4, k4 = l.length - 4 := ⟨_, rfl⟩
  rw [← hbd] at HIN
  rw [← hbd, ← hk4] at HFS HFB HFO HSUM HLT HSAM
  obtain ⟨sm, hsm⟩ : ∃ sm, sm = (sumW bd == l.drop k4) := ⟨_, rfl⟩
  rw [← hsm] at HSAM
  have HSM := Lib.hid hsm
  obtain ⟨m, hml⟩ : ∃ m, m = l.length := ⟨_, rfl⟩
  rw [← hml] at hc h5 h6 hk4 ⊢
  have d1 : decide ((1048576 : Int) < (m : Int)) = false := by simp; omega
  have d2 : decide ((m : Int) < 5) = false := by simp; omega
  have e3 : (m : Int) - 4 = (k4 : Int) := by omega
  have e2 : IntKind.i64.wrap (k4 : Int) = (k4 : Int) := by rw [IntWalk.i64_in _ (by omega)]
  have m1 : k4 ≤ c := by omega
  have m2 : k4 ≤ m := by omega
  have m3 : m - k4 = 4 := by omega
  have v0 : (0 : Int) ≤ (k4 : Int) := by omega
  have v1 : (k4 : Int) ≤ (m : Int) := by omega
  have HBD : Hid (∀ k, Below w.heap.size w (w.drewN k)) := fun k => below_drewN' (Below.refl _ _) k
  have HCM := Lib.hid hm
  have HM1 := Lib.hid m1
  have HS : Hid (∀ wx, Below w.heap.size w wx → Below w.heap.size w wx) := fun wx hx => hx
  have HK4 := Lib.hid hk4
  clear h hm hby hdr hdrl hml hsm hbd hk4
  go_enter Tryd.func37, Tryd.ntmps37
  go_wp2
  go_region_held3 (fun wx => Below w.heap.size w wx)
    ((refine HS.out _ ?_; first | assumption | exact Below.refl _ _ | exact (Below.refl _ _).drew | (apply Below.drew; assumption)))
    (first
      | (go_at_call 70; refine (HSUM.out _ (by assumption)).mono ?_; rintro e w2 ⟨g, rfl, hin2, hb2⟩; have hB2 : Below w.heap.size w w2 := Below.trans (by assumption) (hb2.mono (Below.size (by assumption))))
      | (go_at_call 54; refine (HSAM.out _ _ (by assumption) (by assumption)).mono ?_; rintro e w3 ⟨rfl, hb3⟩; have hB3 : Below w.heap.size w w3 := Below.trans (by assumption) (hb3.mono (Below.size (by assumption)))))
  have HB3 := Lib.hid hB3
  have hInt := refInt_any p c bd w3 (HIN.out.below hB3) (by rw [HLT.out]; exact HM1.out) HCM.out
  rw [HLT.out] at hInt
  have hsm := HSM.out
  clear hB3 HSAM HSUM HSM
  cases sm
  · have hne : ¬ sumW bd = l.drop k4 := by
      intro e
      rw [e] at hsm
      simp at hsm
    have HU := Lib.hid (HFS.out hne)
    clear hne hsm hInt
    go_wp2
    first | go_ret2 | skip
    exact ⟨HB3.out, by rw [HU.out]; exact ⟨rfl, by decide⟩⟩
  · have heq : sumW bd = l.drop k4 := by simpa using hsm.symm
    have HFB2 : Hid (∀ E, bodyR bd = .bad E → unpackR l = .bad E) := fun E h => HFB.out E heq h
    have HFO2 : Hid (∀ es k, bodyR bd = .ok es k → unpackR l = if k = k4 then .ok es 0 else .bad 31) := fun es k h => HFO.out es k heq h
    clear heq hsm HFB HFO HFS
    cases hnum : num bd with
    | bad E =>
      have HU := Lib.hid (HFB2.out E (body_bad hnum))
      go_wp2_with fail
      refine hInt.mono ?_
      rintro e w4 ⟨hb4, h4⟩
      rw [hnum] at h4
      obtain ⟨rfl, hE⟩ := h4
      have dE : (E != 0) = true := by simpa using hE
      have HE := Lib.hid hE
      have HB4 : Hid (Below w.heap.size w w4) := HB3.out.trans (hb4.mono HB3.out.size)
      clear hInt hnum hE hb4
      go_wp2
      first | go_ret2 | skip
      exact ⟨HB4.out, by rw [HU.out]; exact ⟨rfl, HE.out⟩⟩
    | ok v k =>
      obtain ⟨hi64, hk, _⟩ := num_form.back _ v k hnum
      rw [HLT.out] at hk
      have hbo := body_out hnum
      have hbi := body_in hnum
      go_wp2_with fail
      refine hInt.mono ?_
      rintro e w4 ⟨hb4, h4⟩
      rw [hnum] at h4
      obtain rfl := h4
      have HB4 : Hid (Below w.heap.size w w4) := HB3.out.trans (hb4.mono HB3.out.size)
      clear hInt hnum hb4
      by_cases hv : v < 0 ∨ 1024 < v
      · have HU := Lib.hid (HFB2.out 31 (hbo hv))
        clear hbo hbi
        rcases hv with hv | hv
        · have dv : decide (v < 0) = true := by simpa using hv
          go_wp2
          first | go_ret2 | skip
          exact ⟨HB4.out, by rw [HU.out]; exact ⟨rfl, by decide⟩⟩
        · have dv : decide (v < 0) = false := by simp; omega
          have dv2 : decide (1024 < v) = true := by simpa using hv
          go_wp2
          first | go_ret2 | skip
          exact ⟨HB4.out, by rw [HU.out]; exact ⟨rfl, by decide⟩⟩
      · obtain ⟨n, rfl⟩ : ∃ n : Nat, v = (n : Int) := ⟨v.toNat, by omega⟩
        have hn : n ≤ 1024 := by omega
        have HBI := Lib.hid (hbi (by omega) (by omega))
        have HN := Lib.hid hn
        have dv : decide ((n : Int) < 0) = false := by simp
        have dv2 : decide ((1024 : Int) < (n : Int)) = false := by simp; omega
        have HKK := Lib.hid hk
        clear hbo hbi hv hi64
        go_wp2
        go_loopw [6, 8, 9] (fun av ev iv wr => ∃ (i a' : Nat) (rows : List (Evt × Value)) (q : Option Addr) (mm d : Nat), i ≤ n ∧ iv = .int .i64 i ∧ av = .int .i64 a' ∧ ev = .slice q mm d ∧ mm = rows.length ∧ mm = i ∧ a' ≤ k4 ∧ EvsOwn wr w.heap.size (.slice q mm d) rows ∧ Below w.heap.size w wr ∧ EvsSt bd k 0 n (rows.map (·.1)) ((n : Int) - (i : Int)) a' 0) (fun _ _ iv _ => n - (intOf iv).toNat)
        case atStart => exact ⟨0, k, [], none, 0, 0, Nat.zero_le _, rfl, rfl, rfl, rfl, rfl, HKK.out, ⟨World.ownsRow_nil _ _ _ _, by simp⟩, HB4.out, by have := EvsSt.start bd k 0 (n : Int) (fun _ => (by omega)); simpa using this⟩
        case round =>
          obtain ⟨i, a', rows, q, mm, d, hin, rfl, rfl, rfl, hml, hmi, hak, hown, hb, hst⟩ := hrel
          have HBL := Lib.hid hb
          have HOW := Lib.hid hown
          have HST := Lib.hid hst
          have HML := Lib.hid hml
          have HMI := Lib.hid hmi
          have HAK := Lib.hid hak
          clear hb hown hst hml hmi
          by_cases hlt : i < n
          · have hin2 : In wr (restP p a' c) (bd.drop a') := In.of_byt ((show Byt wr wr.heap.size p bd from (HIN.out.below HBL.out).byt (Below.refl _ _) (Nat.le_refl _)).drop (by rw [HLT.out]; exact HM1.out))
            have hdl : (bd.drop a').length = k4 - a' := by rw [List.length_drop, HLT.out]
            have hDE := refDecode_any (restP p a' c) (c - a') (bd.drop a') wr hin2 (by rw [hdl]; have := HM1.out; omega) (by have := HCM.out; omega)
            rw [hdl] at hDE
            have v2 : (0 : Int) ≤ (a' : Int) := by omega
            have v3 : (a' : Int) ≤ (k4 : Int) := by omega
            go_wp2_with fail
            refine hDE.mono ?_
            rintro e w8 ⟨hb8, h8⟩
            have HB8 : Hid (Below w.heap.size w w8) := HBL.out.trans (hb8.mono HBL.out.size)
            cases hr : evtR (bd.drop a') with
            | bad E =>
              rw [hr] at h8
              obtain ⟨rfl, hE⟩ := h8
              have hst2 := HST.out.step (v := evt0) (a2 := 0) (f2 := E) (by omega) rfl (.inr ⟨rfl, by rw [hr]; exact ⟨rfl, hE⟩⟩)
              have hdone := hst2.done (.inr hE)
              have hbd : bodyR bd = .bad E := by
                rw [HBI.out]
                rcases hdone with ⟨h0, _⟩ | ⟨_, h1⟩
                · exact absurd rfl h0
                · cases hq : evsR (n : Int).toNat (bd.drop k) with
                  | bad E' => rw [hq] at h1; rw [h1.1]
                  | ok vs j => rw [hq] at h1; exact absurd h1.1 hE
              have HU := Lib.hid (HFB2.out E hbd)
              have dE : (E != 0) = true := by simpa using hE
              have HE := Lib.hid hE
              clear hst2 hdone hbd hE hr hDE hb8 hin2 hdl
              go_wp2
              first | go_ret2 | skip
              exact ⟨HB8.out.alloc HB8.out.size _, by rw [HU.out]; exact ⟨rfl, HE.out⟩⟩
            | ok ev kk =>
              obtain ⟨ty, tm, vl⟩ := ev
              obtain ⟨hok, hkl, _⟩ := evtR_law.back _ _ kk hr
              rw [hdl] at hkl
              rw [hr] at h8
              obtain ⟨v, rfl, hn8⟩ := h8
              simp only at hn8 ⊢
              obtain ⟨vp, vc, rfl⟩ := own_form hn8
              have HST2 := Lib.hid (HST.out.step (v := ⟨ty, tm, vl⟩) (a2 := a' + kk) (f2 := 0) (by omega) rfl (.inr ⟨rfl, by rw [hr]; exact ⟨rfl, rfl, rfl⟩⟩))
              have OWN8 := Lib.hid (HOW.out.blw hb8)
              have VO8 := Lib.hid (own_base hn8 HBL.out.size)
              have HAK2 : Hid (a' + kk ≤ k4) := by show _ ≤ _; omega
              have hi1 : i = mm := HMI.out.symm
              have hn1024 := HN.out
              have hm1 : mm + 1 ≤ maxLen := by unfold maxLen; omega
              have hm2 : (mm + 1) * 48 ≤ 140737488355328 := by omega
              have hsum2 : a' + kk ≤ 1048576 := by omega
              clear hr hDE hb8 hin2 hdl hn8 hok hkl hi1 hn1024
              go_upto_region 18 with fail
              have hal : Below w8.heap.size w8 (w8.alloc (.cells #[.string ty, .int .i64 tm, .slice vp vl.length vc] 24)) := (Below.refl _ _).alloc (Nat.le_refl _) _
              have T9 := Lib.hid (Three.new w8 ty tm vp vl.length vc)
              obtain ⟨w9, hw9⟩ : ∃ x, x = w8.alloc (.cells #[.string ty, .int .i64 tm, .slice vp vl.length vc] 24) := ⟨_, rfl⟩
              rw [← hw9] at hal T9 ⊢
              obtain ⟨X, hX⟩ : ∃ X, X = w8.heap.size := ⟨_, rfl⟩
              rw [← hX] at T9 ⊢
              have HB9 : Hid (Below w.heap.size w w9) := HB8.out.trans (hal.mono HB8.out.size)
              have OWN9 := Lib.hid (OWN8.out.blw hal)
              have VO9 : Hid (w9.ownsRow w.heap.size 96 4 (.slice vp vl.length vc) vl.length (cells4 vl)) := by
                show World.ownsRow _ _ _ _ _ _ _
                rw [hw9]
                exact World.ownsRow.alloc VO8.out _
              have OR9 : Hid (w9.ownsRow w.heap.size 24 3 (.slice q mm d) mm (cells3 rows)) := by have := OWN9.out.own; rw [← show mm = _ from HML.out] at this; exact this
              have hB9 : w.heap.size ≤ w9.heap.size := HB9.out.size
              have HB9' : Hid (∀ o : Obj, w.heap.size ≤ (w9.alloc o).heap.size) := fun o => (by simp; omega)
              obtain ⟨y0, y1, y2, _, _, _⟩ := T9.out
              clear hal hw9 hX
              go_wp2_with (at_builtin; refine wpList_append_lies _ rfl _ _ 38 rfl w.heap.size 24 i0 (.agg #[.string ⟨#[]⟩, .int .i64 0, .slice none 0 0]) 3 48 Tryd.underlying38 hi hz0 hz1 hz2 rfl (by decide) _ _ _ rfl (World.ownsRow.alloc OR9.out _) ⟨w9.heap.size, 0, none⟩ 1 1 [.string ty, .int .i64 tm, .slice vp vl.length vc] rfl rfl (fun j u h => lit_cells w9 _ _ j u h) (ones3 ty tm vp vl.length vc) (by decide) hm1 hm2 (HB9'.out _) (w9.heap.size + 1) (by simp) ?_)
              intro g9 cap9 w10 hown10 hgrow10 hwh10 hlt10
              have OWN10 := Lib.hid (EvsOwn.app (x := (⟨ty, tm, vl⟩, .slice vp vl.length vc)) OWN9.out VO9.out (by rw [HML.out]) hown10 hgrow10)
              have HB10 : Hid (Below w.heap.size w w10) := (HB9.out.alloc HB9.out.size _).grown hgrow10 (by have := HB9'.out; exact this _) (fun k hk => (World.ownsRow.lt OR9.out k hk).1)
              have HL10 : Hid ((rows ++ [((⟨ty, tm, vl⟩ : Evt), Value.slice vp vl.length vc)]).length = mm + 1) := by show _ = _; rw [HML.out]; simp
              clear hown10 hgrow10 hwh10 hlt10 y0 y1 y2
              go_wp2
              go_roundw
              case rel =>
                refine ⟨i + 1, a' + kk, rows ++ [(⟨ty, tm, vl⟩, .slice vp vl.length vc)], some ⟨g9, 0, none⟩, mm + 1, cap9, by omega, by first | rfl | go_num, by first | rfl | go_num, rfl, HL10.out.symm, by rw [HMI.out], HAK2.out, ?_, HB10.out, ?_⟩
                · have := OWN10.out; rw [HL10.out] at this; exact this
                · rw [List.map_append, show ((i + 1 : Nat) : Int) = (i : Int) + 1 by omega, show (n : Int) - ((i : Int) + 1) = (n : Int) - (i : Int) - 1 by omega]; exact HST2.out
              case measure => simp [intOf]; omega
          · have hii : i = n := by omega
            have hdone := HST.out.done (.inl (by omega))
            have hbd : bodyR bd = .ok (rows.map (·.1)) a' := by
              rw [HBI.out]
              rcases hdone with ⟨h0, _⟩ | ⟨_, h1⟩
              · exact absurd rfl h0
              · cases hq : evsR (n : Int).toNat (bd.drop k) with
                | bad E => rw [hq] at h1; exact absurd h1.1.symm h1.2
                | ok vs j =>
                  rw [hq] at h1
                  obtain ⟨_, h2, h3⟩ := h1
                  simp only
                  rw [h3, h2]
            have hu := HFO2.out _ _ hbd
            by_cases hka : a' < k4
            · rw [if_neg (by omega)] at hu
              have HU := Lib.hid hu
              clear hu hbd hdone hii
              go_wp2
              first | go_ret2 | skip
              exact ⟨HBL.out, by rw [HU.out]; exact ⟨rfl, by decide⟩⟩
            · rw [if_pos (by omega)] at hu
              have HU := Lib.hid hu
              clear hu hbd hdone hii
              go_wp2
              first | go_ret2 | skip
              exact ⟨HBL.out, by rw [HU.out]; exact ⟨rows, q, d, rfl, by rw [← HML.out]; rfl, by rw [← HML.out]; exact HOW.out⟩⟩
theorem refUnpack_any (p : Option Addr) (c : Nat) (l : List UInt8) (w : World) (h : In w p l) (hc : l.length ≤ c) (hm : c ≤ maxLen) : Calls Tryd.prog 37 #[.slice p l.length c] w (UnpIs w l) := by
  by_cases h6 : 1048576 < l.length
  · exact refUnpack_short p c l w (.inl h6)
  · by_cases h5 : l.length < 5
    · exact refUnpack_short p c l w (.inr h5)
    · exact refUnpack_long p c l w h hc hm h5 h6
end Go.Proofs.YtlinpkmfjkcoiaaDoor
