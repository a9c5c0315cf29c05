/- Package wire's appendEvent of an event without values, wherever its row lies; events in a row. Contract of package wire's Pack. -/
import Derived.Test.YtlinpkmfjkcoiaaDoorM3
import Derived.Test.YtlinpkmfjkcoiaaDoorV4
import Derived.Test.YtlinpkmfjkcoiaaDoorS2
import Derived.LoopTactic
import Derived.Test.YtlinpkmfjkcoiaaDoorT9
namespace Go.Proofs.YtlinpkmfjkcoiaaDoor
open Go Go.RowKit
set_option maxHeartbeats 4000000
set_option linter.unusedVariables false
set_option linter.unusedSimpArgs false
set_option maxRecDepth 100000 in
theorem appendEvent_nil (ev : Evt) (he : ev.vals = []) (hok : OkE ev) (B : Nat) (v : Value) (l : List UInt8) (p : Option Addr) (c : Nat) (w : World) (hB : B ≤ w.heap.size) (hown : Out w B v l) (hl : l.length ≤ 20000000) :
    Calls Tryd.prog 48 #[v, .agg #[.string ev.ty, .int .i64 ev.tm, .slice p ev.vals.length c]] w (Wrote B w v (l ++ evtW ev)) := by
  obtain ⟨ty, tm, vl⟩ := ev
  have HN0 : Hid (vl.length = 0) := by show _ = _; simp only at he; rw [he]; rfl
  clear he
  obtain ⟨hnm, htm, h16, hvl⟩ := hok
  simp only at hnm htm h16 hvl ⊢
  have HNL := Lib.hid (name_len hnm)
  have HVL := Lib.hid hvl
  obtain ⟨n, hn⟩ : ∃ n, n = vl.length := ⟨_, rfl⟩
  rw [← hn] at h16 ⊢
  have HN := Lib.hid hn
  have HE : Hid (l ++ evtW ⟨ty, tm, vl⟩ = l ++ textW ty.toList ++ put tm ++ put (n : Int) ++ valsW vl) := by show _ = _; rw [hn]; unfold evtW; simp only [List.append_assoc]
  obtain ⟨w0, hw0⟩ : ∃ x, x = w.alloc (.cells #[.string ty, .int .i64 tm, .slice p n c] 24) := ⟨_, rfl⟩
  have HW := Lib.hid hw0
  have T0 : Hid (Three w0 w.heap.size ty tm (.slice p n c)) := by show Three _ _ _ _ _; rw [hw0]; exact Three.new w ty tm p n c
  have hb0 : Below w.heap.size w w0 := by rw [hw0]; exact (Below.refl _ _).alloc (Nat.le_refl _) _
  have HO0 : Hid (Out w0 B v l) := by show Out _ _ _ _; rw [hw0]; exact World.ownsRow.alloc hown _
  have HB0 : Hid (B ≤ w0.heap.size) := by have := hb0.size; show _ ≤ _; omega
  have HWR0 : Hid (∀ w2 v2, Wr w0 w2 v v2 → Wr w w2 v v2) := fun w2 v2 h => by rw [hw0] at h; exact h.alloc
  have HNE : Hid (some w.heap.size ≠ v.ownBlock) := fun e => by have := (World.ownsRow.lt hown _ e.symm).2; omega
  have HL2 : Hid ((textW ty.toList).length ≤ 50) := by
    have a4 : (put (ty.toList.length : Int)).length ≤ 10 := put_len (by have := HNL.out; unfold I64; omega)
    have := HNL.out
    show _ ≤ _
    unfold textW
    rw [List.length_append]
    omega
  have HTS : Hid (ty.size ≤ 1000000) := by have := HNL.out; rw [size_toList] at this; show _ ≤ _; omega
  have HTM : Hid (I64 tm) := by show I64 _; unfold I64; omega
  have HL3 : Hid ((put tm).length ≤ 10) := put_len HTM.out
  have HNI : Hid (I64 (n : Int)) := by show I64 _; unfold I64; omega
  have HL4 : Hid ((put (n : Int)).length ≤ 10) := put_len HNI.out
  obtain ⟨E, hE⟩ : ∃ E, E = w.heap.size := ⟨_, rfl⟩
  rw [← hE] at T0 HNE
  have HEE := Lib.hid hE
  clear hw0 hb0 hown hn hvl hnm htm
  obtain ⟨c0, c1, c2, z0, z1, z2⟩ := T0.out
  go_enter Tryd.func48, Tryd.ntmps48
  go_upto_region 1 with fail
  rw [← HW.out, ← hE]
  clear hE
  go_wp2_with fail
  refine (appendText_any ty B v l w0 HB0.out HO0.out (by omega) HTS.out).mono ?_
  obtain ⟨l1, hl1⟩ : ∃ l1, l1 = l ++ textW ty.toList := ⟨_, rfl⟩
  rw [← hl1] at HE ⊢
  have L1 : Hid (l1.length ≤ 20000050) := by have := HL2.out; show _ ≤ _; rw [hl1, List.length_append]; omega
  clear hl1
  rintro e w1 ⟨p1, cc1, rfl, ho1, hw1⟩
  have T1 := Lib.hid (T0.out.grown hw1.g HNE.out)
  have HO1 := Lib.hid ho1
  have HW1 := Lib.hid hw1
  have HB1 : Hid (B ≤ w1.heap.size) := by have := hw1.g.size; have := HB0.out; show _ ≤ _; omega
  clear c0 c1 c2 z0 z1 z2 ho1 hw1
  obtain ⟨c0, c1, c2, z0, z1, z2⟩ := T1.out
  go_wp2_with fail
  refine (appendInt_any tm HTM.out B _ l1 w1 HB1.out HO1.out (by have := L1.out; omega)).mono ?_
  obtain ⟨l2, hl2⟩ : ∃ l2, l2 = l1 ++ put tm := ⟨_, rfl⟩
  rw [← hl2] at HE ⊢
  have L2 : Hid (l2.length ≤ 20000060) := by have := HL3.out; have := L1.out; show _ ≤ _; rw [hl2, List.length_append]; omega
  clear hl2
  rintro e w2 ⟨p2, cc2, rfl, ho2, hw2⟩
  have HW2 := Lib.hid (HW1.out.trans hw2)
  have T2 := Lib.hid (T0.out.grown HW2.out.g HNE.out)
  have HO2 := Lib.hid ho2
  have HB2 : Hid (B ≤ w2.heap.size) := by have := hw2.g.size; have := HB1.out; show _ ≤ _; omega
  clear c0 c1 c2 z0 z1 z2 ho2 hw2
  obtain ⟨c0, c1, c2, z0, z1, z2⟩ := T2.out
  go_wp2_with fail
  refine (appendInt_any (n : Int) HNI.out B _ l2 w2 HB2.out HO2.out (by have := L2.out; omega)).mono ?_
  obtain ⟨l3, hl3⟩ : ∃ l3, l3 = l2 ++ put (n : Int) := ⟨_, rfl⟩
  rw [← hl3] at HE ⊢
  have L3 : Hid (l3.length ≤ 20000070) := by have := HL4.out; have := L2.out; show _ ≤ _; rw [hl3, List.length_append]; omega
  clear hl3
  rintro e w3 ⟨p3, cc3, rfl, ho3, hw3⟩
  have HW3 := Lib.hid (HW2.out.trans hw3)
  have T3 := Lib.hid (T0.out.grown HW3.out.g HNE.out)
  have HO3 := Lib.hid ho3
  clear c0 c1 c2 z0 z1 z2 ho3 hw3
  obtain ⟨c0, c1, c2, z0, z1, z2⟩ := T3.out
  go_wp2
  go_loopw [0, 23] (fun o i wr => ∃ (k : Nat) (p : Option Addr) (c : Nat), k ≤ n ∧ i = .int .i64 k ∧ o = .slice p (l3 ++ valsW (vl.take k)).length c ∧ ApLoop w0 B v l3 k vl p c wr) (fun _ i _ => n - (intOf i).toNat)
  case atStart => exact ⟨0, p3, cc3, Nat.zero_le _, rfl, by simp [valsW], by simpa [valsW] using HO3.out, by simpa [valsW] using HW3.out⟩
  case round =>
    obtain ⟨k, p4, cc4, hk, rfl, rfl, hap⟩ := hrel
    have AP := Lib.hid hap
    have hsz := hap.wr_.g.size
    clear hap
    by_cases hlt : k < n
    · exact absurd hlt (by have := HN0.out; have := HN.out; omega)
    · have hkk : k = n := by omega
      have HKK := Lib.hid hkk
      have HFIN : Hid (l3 ++ valsW (vl.take k) = l ++ evtW ⟨ty, tm, vl⟩) := by
        show _ = _
        rw [HE.out, HKK.out, HN.out, List.take_of_length_le (Nat.le_refl _)]
      have HLN : Hid ((l ++ evtW ⟨ty, tm, vl⟩).length = l3.length + (valsW (vl.take k)).length) := by show _ = _; rw [← HFIN.out, List.length_append]
      have HWW := Lib.hid (HWR0.out _ _ AP.out.wr_)
      clear hkk
      go_wp2
      go_ret
      exact ⟨p4, cc4, by rw [HLN.out]; first | rfl | simp, by rw [← HFIN.out]; exact AP.out.out, by rw [← HFIN.out]; exact HWW.out⟩
theorem ValRow.lt {w : World} {p : Option Addr} {vl : List V4} (h : ValRow w p vl) (hne : vl ≠ []) : ∀ a, p = some a → a.block < w.heap.size := by
  intro a ha
  obtain ⟨b, o, e, c, _⟩ := h 0 (List.length_pos_iff.2 hne)
  rw [ha] at e
  simp only [Option.some.injEq] at e
  subst e
  exact lt_of_cell c
/-- of an event whose values lie below the row that is written -/
theorem appendEvent_low (ev : Evt) (hok : OkE ev) (B : Nat) (v : Value) (l : List UInt8) (p : Option Addr) (c : Nat) (w w0 : World) (hB : B ≤ w.heap.size) (hown : Out w B v l) (hl : l.length ≤ 20000000) (hr0 : ValRow w0 p ev.vals) (hw0 : w0.heap.size ≤ B) (hr : ValRow w p ev.vals) :
    Calls Tryd.prog 48 #[v, .agg #[.string ev.ty, .int .i64 ev.tm, .slice p ev.vals.length c]] w (Wrote B w v (l ++ evtW ev)) := by
  by_cases he : ev.vals = []
  · exact appendEvent_nil ev he hok B v l p c w hB hown hl
  · refine appendEvent_any ev hok B v l p c w hB hown hl hr fun a ha e => ?_
    have h1 := hr0.lt he a ha
    rcases hown.2 with ⟨h2, _⟩ | ⟨g, cap, cur, h2, hg, _⟩
    · rw [h2] at e; cases e
    · rw [h2] at e
      simp only [Value.ownBlock, Option.some.injEq] at e
      omega
/-- events lie there, as a list -/
def EvtRow (w : World) (p : Option Addr) (es : List Evt) : Prop := ∀ i (h : i < es.length), ∃ (b o : Nat) (q : Option Addr) (d : Nat), p = some ⟨b, o, none⟩ ∧ w.cell? ⟨b, o + i * 3, none⟩ = some (.string es[i].ty) ∧ w.cell? ⟨b, o + i * 3 + 1, none⟩ = some (.int .i64 es[i].tm) ∧ w.cell? ⟨b, o + i * 3 + 2, none⟩ = some (.slice q es[i].vals.length d) ∧ ValRow w q es[i].vals
theorem EvtRow.below {w w' : World} {p : Option Addr} {es : List Evt} (h : EvtRow w p es) (hb : Below w.heap.size w w') : EvtRow w' p es := by
  intro i hi
  obtain ⟨b, o, q, d, e, c0, c1, c2, h3⟩ := h i hi
  have hl := lt_of_cell c0
  exact ⟨b, o, q, d, e, (hb.cell (p := ⟨b, o + i * 3, none⟩) hl).trans c0, (hb.cell (p := ⟨b, o + i * 3 + 1, none⟩) hl).trans c1, (hb.cell (p := ⟨b, o + i * 3 + 2, none⟩) hl).trans c2, h3.below hb⟩
/-- may such an event be handed in? -/
def InE (e : Evt) : Prop := I64 e.tm ∧ e.vals.length * 40 ≤ 140737488351232 ∧ ∀ v ∈ e.vals, In4 v
theorem Evts.row {w : World} {p : Option Addr} {n : Nat} (h : Evts w p n) : ∃ es : List Evt, es.length = n ∧ EvtRow w p es ∧ ∀ e ∈ es, InE e := by
  have hex : ∃ f : Nat → Evt, ∀ i, i < n → InE (f i) ∧ ∃ (b o : Nat) (q : Option Addr) (d : Nat), p = some ⟨b, o, none⟩ ∧ w.cell? ⟨b, o + i * 3, none⟩ = some (.string (f i).ty) ∧ w.cell? ⟨b, o + i * 3 + 1, none⟩ = some (.int .i64 (f i).tm) ∧ w.cell? ⟨b, o + i * 3 + 2, none⟩ = some (.slice q (f i).vals.length d) ∧ ValRow w q (f i).vals := by
    have : ∀ i, ∃ e : Evt, i < n → InE e ∧ ∃ (b o : Nat) (q : Option Addr) (d : Nat), p = some ⟨b, o, none⟩ ∧ w.cell? ⟨b, o + i * 3, none⟩ = some (.string e.ty) ∧ w.cell? ⟨b, o + i * 3 + 1, none⟩ = some (.int .i64 e.tm) ∧ w.cell? ⟨b, o + i * 3 + 2, none⟩ = some (.slice q e.vals.length d) ∧ ValRow w q e.vals := fun i => by
      by_cases hi : i < n
      · obtain ⟨b, o, ty, tm, q, vl, d, e, c0, c1, c2, h1, h2, h3, h4⟩ := h i hi
        exact ⟨⟨ty, tm, vl⟩, fun _ => ⟨⟨h1, h2, h4⟩, b, o, q, d, e, c0, c1, c2, h3⟩⟩
      · exact ⟨evt0, fun h' => absurd h' hi⟩
    exact ⟨fun i => Classical.choose (this i), fun i => Classical.choose_spec (this i)⟩
  obtain ⟨f, hf⟩ := hex
  refine ⟨(List.range n).map f, by simp, fun i hi => ?_, fun e he => ?_⟩
  · have hin : i < n := by simpa using hi
    simp only [List.getElem_map, List.getElem_range]
    exact (hf i hin).2
  · obtain ⟨i, hi, rfl⟩ := List.mem_map.1 he
    exact (hf i (List.mem_range.1 hi)).1
end Go.Proofs.YtlinpkmfjkcoiaaDoor
namespace Go.Proofs.YtlinpkmfjkcoiaaDoor
open Go Go.RowKit
set_option maxHeartbeats 4000000
set_option linter.unusedVariables false
set_option linter.unusedSimpArgs false
theorem evsW_take {es : List Evt} {k : Nat} (h : k < es.length) : evsW (es.take (k + 1)) = evsW (es.take k) ++ evtW es[k] := by
  unfold evsW
  rw [List.take_add_one, List.flatMap_append, List.getElem?_eq_getElem h]
  simp
theorem evsW_len : ∀ {es : List Evt}, (∀ e ∈ es, OkE e) → (evsW es).length ≤ 5000 * es.length
  | [], _ => by simp [evsW]
  | e :: t, h => by
    have h1 := evtW_len (h e (by simp))
    have h2 := evsW_len (es := t) fun u hu => h u (by simp [hu])
    have e : evsW (e :: t) = evtW e ++ evsW t := rfl
    rw [e, List.length_append, List.length_cons]
    omega
theorem firstF_at : ∀ {es : List Evt} {k : Nat} (hk : k < es.length), (∀ e ∈ es.take k, OkE e) → encF es[k].ty.toList es[k].tm es[k].vals ≠ 0 → firstF es = encF es[k].ty.toList es[k].tm es[k].vals
  | e :: t, 0, hk, _, h => by
    unfold firstF
    simp only [List.getElem_cons_zero] at h ⊢
    rw [if_neg h]
  | e :: t, k + 1, hk, hall, h => by
    unfold firstF
    simp only [List.getElem_cons_succ] at h ⊢
    rw [if_pos (encF_ok (hall e (by simp)))]
    exact firstF_at (by simpa using hk) (fun u hu => hall u (by simp [hu])) h
theorem EvtRow.nth {w : World} {p : Option Addr} {es : List Evt} (h : EvtRow w p es) {k : Nat} (hk : k < es.length) : ∃ (ty : ByteArray) (tm : Int) (vl : List V4) (b o : Nat) (q : Option Addr) (d : Nat), (⟨ty, tm, vl⟩ : Evt) = es[k] ∧ p = some ⟨b, o, none⟩ ∧ w.cell? ⟨b, o + k * 3, none⟩ = some (.string ty) ∧ w.cell? ⟨b, o + k * 3 + 1, none⟩ = some (.int .i64 tm) ∧ w.cell? ⟨b, o + k * 3 + 2, none⟩ = some (.slice q vl.length d) ∧ ValRow w q vl := by
  obtain ⟨b, o, q, d, e, c0, c1, c2, h3⟩ := h k hk
  exact ⟨_, _, _, b, o, q, d, rfl, e, c0, c1, c2, h3⟩
theorem sum_in (w : World) (l : List UInt8) : In (w.alloc (.cells #[.int .u8 ((adQ l : Int) / 256), .int .u8 ((adQ l : Int) % 256), .int .u8 ((adP l : Int) / 256), .int .u8 ((adP l : Int) % 256)] 90)) (some ⟨w.heap.size, 0, none⟩) (sumW l) := by
  have a1 := adP_lt l
  have a3 := adQ_lt l
  intro i hi
  rw [sumW_len] at hi
  have e0 : (((UInt8.ofNat (adQ l / 256)).toNat : Nat) : Int) = (adQ l : Int) / 256 := by rw [ofNat_small (by omega)]; omega
  have e1 : (((UInt8.ofNat (adQ l % 256)).toNat : Nat) : Int) = (adQ l : Int) % 256 := by rw [ofNat_small (by omega)]; omega
  have e2 : (((UInt8.ofNat (adP l / 256)).toNat : Nat) : Int) = (adP l : Int) / 256 := by rw [ofNat_small (by omega)]; omega
  have e3 : (((UInt8.ofNat (adP l % 256)).toNat : Nat) : Int) = (adP l : Int) % 256 := by rw [ofNat_small (by omega)]; omega
  refine ⟨w.heap.size, 0, rfl, ?_⟩
  have hc : i = 0 ∨ i = 1 ∨ i = 2 ∨ i = 3 := by omega
  rcases hc with rfl | rfl | rfl | rfl
  · simp only [sumW, List.getElem_cons_zero]; rw [e0]; simp [go_sem]
  · simp only [sumW, List.getElem_cons_succ, List.getElem_cons_zero]; rw [e1]; simp [go_sem]
  · simp only [sumW, List.getElem_cons_succ, List.getElem_cons_zero]; rw [e2]; simp [go_sem]
  · simp only [sumW, List.getElem_cons_succ, List.getElem_cons_zero]; rw [e3]; simp [go_sem]
def PackIs (w : World) (es : List Evt) (e : Ending) (w' : World) : Prop := Below w.heap.size w w' ∧
  ((packF es = 0 ∧ OkB es ∧ (packW es).length ≤ 1048576 ∧ ∃ p c, e = .returned (.tuple #[.slice p (packW es).length c, .int .i64 0]) ∧ Out w' w.heap.size (.slice p (packW es).length c) (packW es)) ∨
    (packF es ≠ 0 ∧ e = .returned (.tuple #[.slice none 0 0, .int .i64 (packF es)])))
set_option maxRecDepth 100000 in
theorem pack_any (es : List Evt) (p : Option Addr) (c : Nat) (w : World) (hK : Kw w) (hr : EvtRow w p es) (hin : ∀ e ∈ es, InE e) (hm : es.length ≤ maxLen) :
    Calls Tryd.prog 19 #[.slice p es.length c] w (PackIs w es) := by
  obtain ⟨i0, hi5, hz0, hz1, hz2⟩ := info_parts infoByte
  obtain ⟨n, hn⟩ : ∃ n, n = es.length := ⟨_, rfl⟩
  rw [← hn] at hm ⊢
  have HN := Lib.hid hn
  have HK := Lib.hid hK
  have HR := Lib.hid hr
  have HIN := Lib.hid hin
  unfold maxLen at hm
  clear hn hK hr hin
  by_cases h1 : 1024 < n
  · have d1 : decide ((1024 : Int) < (n : Int)) = true := by simp; omega
    have HF : Hid (packF es = 2) := by show _ = _; unfold packF; rw [if_pos (by rw [← HN.out]; exact h1)]
    clear h1
    go_enter Tryd.func19, Tryd.ntmps19
    go_wp2
    first | go_ret2 | skip
    exact ⟨Below.refl _ _, .inr ⟨by rw [HF.out]; decide, by rw [HF.out]; rfl⟩⟩
  · have d1 : decide ((1024 : Int) < (n : Int)) = false := by simp; omega
    have HNI : Hid (I64 (n : Int)) := by show I64 _; unfold I64; omega
    have HF1 : Hid (packF es = if firstF es = 0 then (if 1048576 < (bodyW es).length + 4 then 2 else 0) else firstF es) := by show _ = _; unfold packF; rw [if_neg (by rw [← HN.out]; omega)]
    go_enter Tryd.func19, Tryd.ntmps19
    go_wp2_with fail
    refine (putInt_any _ HNI.out _).mono ?_
    rintro e w1 ⟨p1, k1, rfl, ho1, hw1⟩
    have HB1 : Hid (Below w.heap.size w w1) := hw1.below (Out.nil _ _) (Nat.le_refl _)
    have HO1 := Lib.hid ho1
    obtain ⟨L, hL⟩ : ∃ L, L = put (n : Int) := ⟨_, rfl⟩
    rw [← hL] at HO1 ⊢
    have HL := Lib.hid hL
    have HL10 : Hid (L.length ≤ 10) := by rw [hL]; exact put_len HNI.out
    have HBW : Hid (bodyW es = L ++ evsW es) := by show _ = _; unfold bodyW; rw [hL, HN.out]
    clear ho1 hw1 hL
    go_wp2
    go_loopw [4, 17] (fun ov iv wr => ∃ (k : Nat) (q : Option Addr) (m d : Nat), k ≤ n ∧ iv = .int .i64 k ∧ ov = .slice q m d ∧ m = (L ++ evsW (es.take k)).length ∧ Out wr w.heap.size (.slice q m d) (L ++ evsW (es.take k)) ∧ Below w.heap.size w wr ∧ ∀ e ∈ es.take k, OkE e) (fun _ iv _ => n - (intOf iv).toNat)
    case atStart => exact ⟨0, p1, L.length, k1, Nat.zero_le _, rfl, rfl, by simp [evsW], by simpa [evsW] using HO1.out, HB1.out, by simp⟩
    case round =>
      obtain ⟨k, q, m, d, hk, rfl, rfl, hml, ho, hb, hall⟩ := hrel
      have HBL := Lib.hid hb
      have HA := Lib.hid hall
      obtain ⟨lk, hlk⟩ : ∃ lk, lk = L ++ evsW (es.take k) := ⟨_, rfl⟩
      rw [← hlk] at ho hml
      have HOL := Lib.hid ho
      have HLK := Lib.hid hlk
      have HML := Lib.hid hml
      have LKL : Hid (lk.length ≤ 5120010) := by
        have h2 : (es.take k).length ≤ 1024 := by rw [List.length_take]; omega
        have h3 := evsW_len hall
        have h4 := HL10.out
        show _ ≤ _
        rw [hlk, List.length_append]
        have : 5000 * (es.take k).length ≤ 5000 * 1024 := Nat.mul_le_mul_left _ h2
        omega
      have hsl := hb.size
      clear ho hml hlk hb hall
      by_cases hlt : k < n
      · have hkl : k < es.length := by rw [← HN.out]; exact hlt
        have HKL := Lib.hid hkl
        obtain ⟨ty, tm, vl, b, o, qv, dv, hev, rfl, c0, c1, c2, hvr⟩ := (HR.out.below HBL.out).nth hkl
        have HV0 : Hid (ValRow wr qv vl) := hvr
        have HEV := Lib.hid hev
        have hie : InE ⟨ty, tm, vl⟩ := by rw [hev]; exact HIN.out _ (List.getElem_mem hkl)
        have HIE := Lib.hid hie
        have hvm : vl.length ≤ maxLen := by have := hie.2.1; unfold maxLen; simp only at this; omega
        have HWV : Hid (ValRow w qv vl) := by
          show ValRow _ _ _
          have := (HR.out) k hkl
          obtain ⟨b', o', q', d', e', _, _, a2, a3⟩ := this
          simp only [Option.some.injEq, Addr.mk.injEq, and_true] at e'
          obtain ⟨rfl, rfl⟩ := e'
          rw [← hev] at a2 a3
          have hl2 := lt_of_cell a2
          have e2 := (HBL.out.cell (p := ⟨b, o + k * 3 + 2, none⟩) hl2).trans a2
          rw [c2] at e2
          simp only [Option.some.injEq, Value.slice.injEq] at e2
          rw [e2.1]
          exact a3
        go_upto_region 7 with fail
        have hal : Below wr.heap.size wr (wr.alloc (.cells #[.string ty, .int .i64 tm, .slice qv vl.length dv] 24)) := (Below.refl _ _).alloc (Nat.le_refl _) _
        have T3 := Lib.hid (Three.new wr ty tm qv vl.length dv)
        have HO3 : Hid (Out (wr.alloc (.cells #[.string ty, .int .i64 tm, .slice qv vl.length dv] 24)) w.heap.size (.slice q m d) lk) := HOL.out.below hal
        obtain ⟨w3, hw3⟩ : ∃ x, x = wr.alloc (.cells #[.string ty, .int .i64 tm, .slice qv vl.length dv] 24) := ⟨_, rfl⟩
        rw [← hw3] at hal T3 HO3 ⊢
        obtain ⟨X, hX⟩ : ∃ X, X = wr.heap.size := ⟨_, rfl⟩
        rw [← hX] at T3 ⊢
        have HXL : Hid (some X ≠ (Value.slice q m d).ownBlock) := fun e => by have := (World.ownsRow.lt HOL.out _ e.symm).2; omega
        have HB3 : Hid (Below w.heap.size w w3) := HBL.out.trans (hal.mono HBL.out.size)
        have HV3 := Lib.hid (HV0.out.below hal)
        have hFA := fault_any ty tm vl qv dv w3 (HK.out.below HB3.out) HV3.out hvm
        obtain ⟨vn, hvn⟩ : ∃ vn, vn = vl.length := ⟨_, rfl⟩
        rw [← hvn] at hFA T3
        obtain ⟨F, hFF⟩ : ∃ F, F = encF ty.toList tm vl := ⟨_, rfl⟩
        rw [← hFF] at hFA
        have HFF := Lib.hid hFF
        have HVN := Lib.hid hvn
        try rw [← hvn]
        clear c0 c1 c2 hal hw3 hX hFF hvn hie hev hvr hvm
        obtain ⟨y0, y1, y2, _, _, _⟩ := T3.out
        go_wp2_with fail
        refine hFA.mono ?_
        rintro e w4 ⟨rfl, hb4⟩
        have T4 := Lib.hid (T3.out.below hb4)
        have HB4 : Hid (Below w.heap.size w w4) := HB3.out.trans (hb4.mono HB3.out.size)
        have HO4 := Lib.hid (HO3.out.below hb4)
        have HV4 := Lib.hid (HV3.out.below hb4)
        clear hb4 y0 y1 y2 hFA
        by_cases hF : F = 0
        · have dF : (F != 0) = false := by simpa using hF
          have HF0 := Lib.hid hF
          clear hF
          have HOKE : Hid (OkE ⟨ty, tm, vl⟩) := ok_of (by rw [← show F = _ from HFF.out]; exact HF0.out) HIE.out.2.2
          have hAE := appendEvent_low ⟨ty, tm, vl⟩ HOKE.out w.heap.size (.slice q m d) lk qv dv w4 w HB4.out.size HO4.out (by have := LKL.out; omega) HWV.out (Nat.le_refl _) HV4.out
          simp only at hAE
          rw [← show vn = _ from HVN.out] at hAE
          obtain ⟨y0, y1, y2, _, _, _⟩ := T4.out
          go_wp2_with fail
          refine hAE.mono ?_
          rintro e w5 ⟨p5, k5, rfl, ho5, hw5⟩
          have HB5 : Hid (Below w.heap.size w w5) := HB4.out.trans (hw5.below HO4.out HB4.out.size)
          have HEQ : Hid (L ++ evsW (es.take (k + 1)) = lk ++ evtW ⟨ty, tm, vl⟩) := by show _ = _; rw [evsW_take HKL.out, HLK.out, ← show _ = _ from HEV.out, List.append_assoc]
          have HO5 := Lib.hid ho5
          have HALL : Hid (∀ e ∈ es.take (k + 1), OkE e) := by
            show ∀ _, _
            intro e he
            rw [List.take_add_one, List.getElem?_eq_getElem HKL.out] at he
            simp only [List.mem_append, Option.toList_some, List.mem_singleton] at he
            rcases he with he | rfl
            · exact HA.out e he
            · rw [← show _ = _ from HEV.out]; exact HOKE.out
          clear hAE ho5 hw5 y0 y1 y2
          obtain ⟨lk2, hlk2⟩ : ∃ x, x = lk ++ evtW ⟨ty, tm, vl⟩ := ⟨_, rfl⟩
          rw [← hlk2] at HO5 HEQ ⊢
          clear hlk2
          go_wp2
          go_roundw
          case rel => exact ⟨k + 1, p5, lk2.length, k5, by omega, by go_num, rfl, by rw [HEQ.out], by rw [HEQ.out]; exact HO5.out, HB5.out, HALL.out⟩
          case measure => simp [intOf]; omega
        · have dF : (F != 0) = true := by simpa using hF
          have HP : Hid (packF es = F) := by
            show _ = _
            have h1 : firstF es = F := by
              rw [firstF_at HKL.out HA.out (by rw [← show _ = _ from HEV.out, ← show F = _ from HFF.out]; exact hF), ← show _ = _ from HEV.out, ← show F = _ from HFF.out]
            rw [HF1.out, h1, if_neg hF]
          have HF0 := Lib.hid hF
          clear hF
          go_wp2
          first | go_ret2 | skip
          exact ⟨HB4.out, .inr ⟨by rw [HP.out]; exact HF0.out, by rw [HP.out]; rfl⟩⟩
      · have hkk : k = n := by omega
        have HBD : Hid (bodyW es = lk) := by show _ = _; rw [HBW.out, HLK.out, hkk, HN.out, List.take_of_length_le (Nat.le_refl _)]
        have HALL : Hid (∀ e ∈ es, OkE e) := by
          show ∀ _, _
          intro e he
          exact HA.out e (by rw [hkk, HN.out, List.take_of_length_le (Nat.le_refl _)]; exact he)
        have HF0 : Hid (packF es = if 1048576 < lk.length + 4 then 2 else 0) := by show _ = _; rw [HF1.out, firstF_of HALL.out, if_pos rfl, HBD.out]
        clear hkk
        obtain rfl := HML.out
        by_cases hbig : 1048576 < lk.length + 4
        · have d2 : decide ((1048576 : Int) < (lk.length : Int) + 4) = true := by simp; omega
          have HP : Hid (packF es = 2) := by show _ = _; rw [HF0.out, if_pos hbig]
          clear hbig
          obtain ⟨ln, hln⟩ : ∃ ln, ln = lk.length := ⟨_, rfl⟩
          rw [← hln] at d2 ⊢
          have hl5 : ln ≤ 5120010 := by rw [hln]; exact LKL.out
          clear hln
          go_wp2
          first | go_ret2 | skip
          exact ⟨HBL.out, .inr ⟨by rw [HP.out]; decide, by rw [HP.out]; rfl⟩⟩
        · have d2 : decide ((1048576 : Int) < (lk.length : Int) + 4) = false := by simp; omega
          have HP : Hid (packF es = 0) := by show _ = _; rw [HF0.out, if_neg hbig]
          have hsum := sum_any q d lk wr HOL.out.inn.1 (by omega)
          have HW : Hid (packW es = lk ++ sumW lk) := by show _ = _; unfold packW; rw [HBD.out]
          have HWL : Hid ((packW es).length = lk.length + 4) := by show _ = _; rw [HW.out, List.length_append, sumW_len]
          have HSM : Hid (lk.length + 4 ≤ 1048576) := by show _ ≤ _; omega
          obtain ⟨ln, hln⟩ : ∃ ln, ln = lk.length := ⟨_, rfl⟩
          rw [← hln] at d2 hsum ⊢
          have HLN := Lib.hid hln
          have hl5 : ln ≤ 5120010 := by rw [hln]; exact LKL.out
          clear hbig hln
          go_wp2_with fail
          refine hsum.mono ?_
          rintro e w2 ⟨rfl, hb2⟩
          have HB2 : Hid (Below w.heap.size w w2) := HBL.out.trans (hb2.mono HBL.out.size)
          have HO2 := Lib.hid (HOL.out.below hb2)
          clear hb2 hsum
          go_upto_region 15 with fail
          have hal : Below w2.heap.size w2 (w2.alloc (.cells #[.int .u8 ((adQ lk : Int) / 256), .int .u8 ((adQ lk : Int) % 256), .int .u8 ((adP lk : Int) / 256), .int .u8 ((adP lk : Int) % 256)] 90)) := (Below.refl _ _).alloc (Nat.le_refl _) _
          have hin3 := sum_in w2 lk
          obtain ⟨w3, hw3⟩ : ∃ x, x = w2.alloc (.cells #[.int .u8 ((adQ lk : Int) / 256), .int .u8 ((adQ lk : Int) % 256), .int .u8 ((adP lk : Int) / 256), .int .u8 ((adP lk : Int) % 256)] 90) := ⟨_, rfl⟩
          rw [← hw3] at hal hin3 ⊢
          obtain ⟨G, hG⟩ : ∃ G, G = w2.heap.size := ⟨_, rfl⟩
          rw [← hG] at hin3 ⊢
          have HB3 : Hid (Below w.heap.size w w3) := HB2.out.trans (hal.mono HB2.out.size)
          have HO3 : Hid (Out w3 w.heap.size (.slice q ln d) lk) := by show Out _ _ _ _; rw [show ln = _ from HLN.out]; exact HO2.out.below hal
          have HI3 := Lib.hid hin3
          have hm1 : lk.length + (sumW lk).length ≤ maxLen := by rw [sumW_len, ← show ln = _ from HLN.out]; unfold maxLen; omega
          have hm2 : lk.length + (sumW lk).length ≤ 140737488355328 := by rw [sumW_len, ← show ln = _ from HLN.out]; omega
          have hs3 : w.heap.size ≤ w3.heap.size := HB3.out.size
          have HN4 : Hid (ln + 4 = lk.length + (sumW lk).length) := by show _ = _; rw [sumW_len, ← show ln = _ from HLN.out]
          clear hal hin3 hw3 hG
          go_wp2_with (at_builtin; refine wpList_cat rfl _ _ rfl w.heap.size i0 hi5 hz0 hz1 hz2 _ lk rfl HO3.out (some ⟨G, 0, none⟩) 4 4 (sumW lk) rfl rfl HI3.out (fun h => (by cases h)) hm1 hm2 hs3 (ln + 4) HN4.out ?_)
          intro q4 d4 w4 hO4 hW4
          have HO4 := Lib.hid hO4
          have HB4 : Hid (Below w.heap.size w w4) := HB3.out.trans (hW4.below HO3.out hs3)
          have HOKB : Hid (OkB es) := ⟨by rw [← HN.out]; omega, HALL.out⟩
          clear hO4 hW4
          go_wp2
          first | go_ret2 | skip
          refine ⟨HB4.out, .inl ⟨HP.out, HOKB.out, by rw [HWL.out]; exact HSM.out, q4, d4, ?_, ?_⟩⟩
          · rw [HWL.out, ← show ln = _ from HLN.out]; rfl
          · rw [HWL.out, ← show ln = _ from HLN.out, HW.out]; exact HO4.out
end Go.Proofs.YtlinpkmfjkcoiaaDoor
