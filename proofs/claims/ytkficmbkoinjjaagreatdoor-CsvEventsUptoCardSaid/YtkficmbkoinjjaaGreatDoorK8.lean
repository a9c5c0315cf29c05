/- The walk of the law CsvEvents. -/
import Derived.Test.YtkficmbkoinjjaaGreatDoorK8a
namespace Go.Proofs.YtkficmbkoinjjaaGreatDoor.lawEvents
open Go Go.ChangeShapes Go.WideShapes Go.ChangeAt Go.RowKit
open V
set_option maxHeartbeats 1600000
set_option linter.unusedVariables false
set_option linter.unusedSimpArgs false
attribute [local go_sem ↓] run_neq_A
set_option maxRecDepth 100000 in
theorem walk (nm : ByteArray) (p : Option Addr) (l : List (ByteArray × Int)) (c : Nat) (rp : Option Addr) (rows : List (List Cell)) (rc : Nat) (ep : Option Addr) (en ec : Nat) (W : World) (hM : Mx W) (hv : Vv W) (hA : AtRow W p l) (hpc : p = none → c = 0) (hR : RowsN W rp rows) (hE : Evts W ep en 1048576)
    (hl : l.length ≤ 1048576) (hr : rows.length ≤ 1048576) (hrs : ∀ r ∈ rows, r.length ≤ 1048576) (hrc : rows.length ≤ rc) (hrc2 : rc ≤ maxLen) (hen : en ≤ 1048576) :
    Calls Tryz.prog 4 #[.agg #[.string nm, .slice p l.length c], .slice rp rows.length rc, .slice ep en ec] W fun e w' => e = .returned (.bool true) ∧ Below W.heap.size W w' := by
  obtain ⟨iA, hiA, a0, a1, a2⟩ := info_parts infoAttr
  obtain ⟨iV, hiV, b0, b1, b2⟩ := info_parts infoVal
  obtain ⟨m, hmm⟩ : ∃ m, m = l.length := ⟨_, rfl⟩
  obtain ⟨rn, hrr⟩ : ∃ rn, rn = rows.length := ⟨_, rfl⟩
  have HMM := Lib.hid hmm
  have HRR := Lib.hid hrr
  have HM := Lib.hid hM
  have HVV := Lib.hid hv
  have HA0 := Lib.hid hA
  have HR0 := Lib.hid hR
  have HE0 := Lib.hid hE
  have HRS := Lib.hid hrs
  have hpn : p = none → c = 0 ∧ m = 0 := fun h => ⟨hpc h, by
    rcases Nat.eq_zero_or_pos m with h0 | h0
    · exact h0
    · obtain ⟨b, o, e, _⟩ := hA 0 (by omega)
      rw [h] at e
      cases e⟩
  have HPN := Lib.hid hpn
  rw [← hmm] at hl ⊢
  rw [← hrr] at hr hrc ⊢
  clear hM hv hA hpc hR hE hrs hmm hrr hpn
  go_enter Tryz.func4, Tryz.ntmps4
  go_wp2_with fail
  refine (begun_any _ (HM.out.below ((Below.refl _ _).alloc (Nat.le_refl _) _) HM.out.lt)).mono ?_
  rintro e w2 ⟨rfl, hb2⟩
  have hbW2 : Below W.heap.size W w2 := ((Below.refl _ _).alloc (Nat.le_refl _) _).trans (hb2.mono (by simp))
  obtain ⟨hc2, hf2⟩ := bcell hb2
  have hz2 : W.heap.size < w2.heap.size := by have := hb2.size; simp at this; omega
  obtain ⟨g, hg⟩ : ∃ g, g = W.heap.size := ⟨_, rfl⟩
  have HG := Lib.hid hg
  have x0 : w2.cell? ⟨W.heap.size, 0, none⟩ = some (.string nm) := by rw [hc2 _ _ (by simp)]; simp [go_sem]
  have x1 : w2.cell? ⟨W.heap.size, 1, none⟩ = some (.slice p m c) := by rw [hc2 _ _ (by simp)]; simp [go_sem]
  rw [← hg] at x0 x1 hz2
  have HB2 := Lib.hid hbW2
  clear hb2 hbW2 hc2 hf2
  rw [← HG.out]
  clear hg
  go_upto_region 5 with fail
  obtain ⟨g8, hg8⟩ : ∃ g8, g8 = w2.heap.size := ⟨_, rfl⟩
  obtain ⟨w4, hw4⟩ : ∃ x, x = w2.alloc (Obj.cells #[.string nm, .slice p m c] 25) := ⟨_, rfl⟩
  have hal : Below w2.heap.size w2 w4 := by rw [hw4]; exact (Below.refl _ _).alloc (Nat.le_refl _) _
  have y0 := (hal.cell (p := ⟨g, 0, none⟩) hz2).trans x0
  have y1 := (hal.cell (p := ⟨g, 1, none⟩) hz2).trans x1
  have v0 : w4.cell? ⟨g8, 0, none⟩ = some (.string nm) := by rw [hw4, hg8]; simp [go_sem]
  have v1 : w4.cell? ⟨g8, 1, none⟩ = some (.slice p m c) := by rw [hw4, hg8]; simp [go_sem]
  have vf : w4.frozen? ⟨g8, 1, none⟩ = false := by rw [hw4, hg8]; simp [go_sem]
  have KG8 : Hid (W.heap.size ≤ g8) := by have := HB2.out.size; show _ ≤ _; omega
  have zg : g < w4.heap.size := Nat.lt_of_lt_of_le hz2 hal.size
  have z8 : g8 < w4.heap.size := by rw [hw4, hg8]; simp
  have HB4 : Hid (Below W.heap.size W w4) := HB2.out.trans (hal.mono HB2.out.size)
  have hgg8 : g < g8 := by omega
  rw [← hw4, ← hg8]
  clear hal hw4 hg8 x0 x1 hz2
  have hb63 : 0 + m ≤ maxLen := by unfold maxLen; omega
  have hbb : (0 + m) * 24 ≤ 140737488355328 := by omega
  have hnl : (cells2 l).length = m * 2 := by rw [cells2_len, ← HMM.out]
  go_wp2_with (at_builtin; refine wpList_catG rfl _ _ 23 52 rfl w4.heap.size iA (.agg #[.string ⟨#[]⟩, .int .i64 0]) 2 24 Tryz.underlying23 hiA a0 a1 a2 rfl (by decide) (.slice none 0 0) 0 [] rfl (World.ownsRow_nil _ _ _ _) p c m (cells2 l) rfl hnl (attr_news (HA0.out.below HB4.out)) (cells2_one l) HPN.out hb63 hbb (Nat.le_refl _) m (by omega) ?_)
  intro ap ac w5 hown5 hgr5
  have hb5 : Below w4.heap.size w4 w5 := (Below.refl _ _).grown hgr5 (Nat.le_refl _) (fun k hk => by cases hk)
  have HB5 := Lib.hid hb5
  have HO5 : Hid (w5.ownsRow w4.heap.size 52 2 (.slice ap (m + 0) ac) (m + 0) (cells2 (l ++ mks 0))) := by
    show World.ownsRow _ _ _ _ _ _ _
    simpa [mks] using hown5
  clear hown5 hgr5 hb5 hb63 hbb hnl
  go_wp2
  go_loopw [9, 10] (fun av iv wr => ∃ (k : Nat) (ap : Option Addr) (ac : Nat), k ≤ 20 ∧ iv = .int .i64 k ∧ av = .slice ap (m + k) ac ∧ Below w4.heap.size w4 wr ∧ wr.ownsRow w4.heap.size 52 2 (.slice ap (m + k) ac) (m + k) (cells2 (l ++ mks k))) (fun _ iv _ => 20 - (intOf iv).toNat)
  case atStart => exact ⟨0, ap, ac, by omega, rfl, rfl, HB5.out, HO5.out⟩
  case round =>
    clear HB5 HO5
    obtain ⟨k, ap, ac, hk, rfl, rfl, hbr, hown⟩ := hrel
    have HBR := Lib.hid hbr
    have HOW := Lib.hid hown
    have HZR : Hid (w4.heap.size ≤ wr.heap.size) := hbr.size
    clear hbr hown
    by_cases hlt : k < 20
    · have hm1 : m + k + 1 ≤ maxLen := by unfold maxLen; omega
      have hm2 : (m + k + 1) * 24 ≤ 140737488355328 := by omega
      go_wp2_with fail
      refine (word_any k hlt _).mono ?_
      rintro e w6 ⟨rfl, hb6⟩
      have HB6 : Hid (Below w4.heap.size w4 w6) := HBR.out.trans (hb6.mono HZR.out)
      have HO6 : Hid (w6.ownsRow w4.heap.size 52 2 (.slice ap (m + k) ac) (m + k) (cells2 (l ++ mks k))) := own_kept_any HOW.out hb6
      have HZ6 : Hid (∀ o : Obj, w4.heap.size ≤ (w6.alloc o).heap.size) := fun o => (by have := HB6.out.size; simp; omega)
      clear hb6
      go_wp2_with (at_builtin; refine wpList_append_lies _ rfl _ _ 23 rfl w4.heap.size 52 iA (.agg #[.string ⟨#[]⟩, .int .i64 0]) 2 24 Tryz.underlying23 hiA a0 a1 a2 rfl (by decide) _ _ _ rfl (World.ownsRow.alloc HO6.out _) ⟨w6.heap.size, 0, none⟩ 1 1 [.string ⟨(wd k).toArray⟩, .int .i64 0] rfl rfl (lit_cells w6 _ _) (by intro u hu; simp at hu; rcases hu with rfl | rfl <;> rfl) (by decide) hm1 hm2 (HZ6.out _) (w6.heap.size + 1) (by simp) ?_)
      intro ga capa wa owna hgra hwha hlta
      have hal : Below w6.heap.size w6 (w6.alloc (.cells #[.string ⟨(wd k).toArray⟩, .int .i64 0] 52)) := (Below.refl _ _).alloc (Nat.le_refl _) _
      have HBa : Hid (Below w4.heap.size w4 wa) := (HB6.out.trans (hal.mono HB6.out.size)).grown hgra (HZ6.out _) (fun x hx => (World.ownsRow.lt HO6.out x hx).1)
      have HOa : Hid (wa.ownsRow w4.heap.size 52 2 (.slice (some ⟨ga, 0, none⟩) (m + k + 1) capa) (m + k + 1) (cells2 (l ++ mks (k + 1)))) := by
        rw [mks_succ, ← List.append_assoc, ← cells2_snoc]
        exact owna
      clear owna hgra hwha hlta hal hm1 hm2
      go_wp2
      go_roundw
      case rel => exact ⟨k + 1, some ⟨ga, 0, none⟩, capa, by omega, by go_num, by simp [Nat.add_assoc], HBa.out, by simpa [Nat.add_assoc] using HOa.out⟩
      case measure => simp [intOf]; omega
    · have hk20 : k = 20 := by omega
      subst hk20
      obtain ⟨ga, hap, hcap⟩ : ∃ ga, ap = some ⟨ga, 0, none⟩ ∧ m + 20 ≤ ac ∧ ac ≤ maxLen := by
        rcases HOW.out.2 with ⟨e, e0⟩ | ⟨ga, cap, cur, e, _, _, h1, h2, _⟩
        · omega
        · simp only [Value.slice.injEq] at e
          obtain ⟨rfl, _, rfl⟩ := e
          exact ⟨ga, rfl, h1, h2⟩
      subst hap
      obtain ⟨hcap1, hcap2⟩ := hcap
      have hgw : w4.heap.size ≤ ga := by
        rcases HOW.out.2 with ⟨e, e0⟩ | ⟨gb, cap, cur, e, hg, _⟩
        · omega
        · simp only [Value.slice.injEq, Option.some.injEq, Addr.mk.injEq] at e
          obtain ⟨⟨rfl, _⟩, _⟩ := e
          exact hg
      have c0 := (HBR.out.cell (p := ⟨g, 0, none⟩) zg).trans y0
      have c1 := (HBR.out.cell (p := ⟨g, 1, none⟩) zg).trans y1
      have m8a := (HBR.out.cell (p := ⟨g8, 0, none⟩) z8).trans v0
      have m8b := (HBR.out.cell (p := ⟨g8, 1, none⟩) z8).trans v1
      have m8f := (HBR.out.frozen (p := ⟨g8, 1, none⟩) z8).trans vf
      have hcm : (m : Int) ≤ (m : Int) + 20 := by omega
      have hcc : (m : Int) + 20 ≤ (ac : Int) := by omega
      go_upto_region 11 with fail
      obtain ⟨w7, hw7⟩ : ∃ x, x = wr.setCell ⟨g8, 1, none⟩ (.slice (some ⟨ga, 0, none⟩) m (m + 20)) := ⟨_, rfl⟩
      have hO7 : w7.ownsRow w4.heap.size 52 2 (.slice (some ⟨ga, 0, none⟩) (m + 20) ac) (m + 20) (cells2 (l ++ mks 20)) := by
        rw [hw7]
        exact ownsRow_setCell_below HOW.out (a := ⟨g8, 1, none⟩) z8 _
      have q0 : w7.cell? ⟨g, 0, none⟩ = some (.string nm) := by rw [hw7]; simp [go_sem, c0, m8b]
      have q1 : w7.cell? ⟨g, 1, none⟩ = some (.slice p m c) := by
        rw [hw7]
        have hne : g ≠ g8 := by omega
        have e : (wr.setCell ⟨g8, 1, none⟩ (.slice (some ⟨ga, 0, none⟩) m (m + 20))).heap[g]? = wr.heap[g]? := Below.heap_setCell _ _ _ _ (by simpa using hne)
        exact (World.cell?_of_block (a := ⟨g, 1, none⟩) e).trans c1
      have r0 : w7.cell? ⟨g8, 0, none⟩ = some (.string nm) := by rw [hw7]; simp [go_sem, m8a, m8b]
      have r1 : w7.cell? ⟨g8, 1, none⟩ = some (.slice (some ⟨ga, 0, none⟩) m (m + 20)) := by rw [hw7]; simp [go_sem, m8a, m8b]
      have hB7 : Below W.heap.size W w7 := by
        rw [hw7]
        exact (HB4.out.trans (HBR.out.mono HB4.out.size)).setCell (p := ⟨g8, 1, none⟩) KG8.out _
      have zg7 : g < w7.heap.size := by rw [hw7]; have := HZR.out; simp [World.setCell]; omega
      have z87 : g8 < w7.heap.size := by rw [hw7]; have := HZR.out; simp [World.setCell]; omega
      have HB7 := Lib.hid hB7
      have HO7 := Lib.hid hO7
      have HA7 : Hid (AtRow w7 (some ⟨ga, 0, none⟩) l) := by
        intro i hi
        have x := fun j u hu => World.ownsRow.cells (g := ga) hO7 rfl j u hu
        have hi2 : i < (l ++ mks 20).length := by simp; omega
        obtain ⟨h0, h1⟩ := cells2_at hi2
        have e2 : (l ++ mks 20)[i] = l[i] := List.getElem_append_left hi
        rw [e2] at h0 h1
        have x0 := x _ _ h0
        have x1 := x _ _ h1
        rw [Addr.add_lit] at x0 x1
        exact ⟨ga, 0, rfl, x0, x1⟩
      rw [← hw7]
      clear hw7 hO7 hB7 c0 c1 m8a m8b m8f y0 y1 v0 v1 vf zg z8 HBR HOW HZR hlt hk hcm hcc
      generalize Value.int IntKind.i64 ((20 : Nat) : Int) = s10
      go_wp2
      go_loopw [11] (fun iv wx => ∃ k : Nat, k ≤ rn ∧ iv = .int .i64 k ∧ Below w7.heap.size w7 wx) (fun iv _ => rn - (intOf iv).toNat)
      case atStart => exact ⟨0, Nat.zero_le _, rfl, Below.refl _ _⟩
      case round =>
        obtain ⟨k, hk, rfl, hbr⟩ := hrel
        have HBR := Lib.hid hbr
        have HBW : Hid (Below W.heap.size W wr) := HB7.out.trans (hbr.mono HB7.out.size)
        have c0 := (hbr.cell (p := ⟨g, 0, none⟩) zg7).trans q0
        have c1 := (hbr.cell (p := ⟨g, 1, none⟩) zg7).trans q1
        have m8a := (hbr.cell (p := ⟨g8, 0, none⟩) z87).trans r0
        have m8b := (hbr.cell (p := ⟨g8, 1, none⟩) z87).trans r1
        have zgr : g < wr.heap.size := Nat.lt_of_lt_of_le zg7 hbr.size
        have z8r : g8 < wr.heap.size := Nat.lt_of_lt_of_le z87 hbr.size
        clear hbr
        by_cases hlt : k < rn
        · obtain ⟨r, b, o, q, d, hrk, rfl, e0, hcr, hq0⟩ := (HR0.out.below HBW.out).nth (k := k) (by rw [← HRR.out]; exact hlt)
          have HCR := Lib.hid hcr
          have hrlen := HRS.out r (List.mem_of_getElem? hrk)
          have HRL := Lib.hid hrlen
          have HRO := Lib.hid (roomy_any [r] (some ⟨b, o + k, none⟩) (rc - k) wr (by
            intro i hi
            have hi0 : i = 0 := by simp at hi; omega
            subst hi0
            exact ⟨b, o + k, q, d, rfl, by simpa using e0, hcr, hq0⟩) (by simp) (by
            intro x hx
            simp only [List.mem_singleton] at hx
            rw [hx]
            exact hrlen))
          have kw : IntKind.i64.wrap ((k : Int) + 1) = (k : Int) + 1 := IntWalk.i64_in _ (by omega)
          have kk : (k : Int) ≤ (k : Int) + 1 := by omega
          have kk1 : (k : Int) + 1 ≤ (rc : Int) := by omega
          clear hrk hcr hq0 hrlen
          obtain ⟨rl, hrl⟩ : ∃ rl, rl = r.length := ⟨_, rfl⟩
          have HRLE := Lib.hid hrl
          rw [← hrl] at e0
          have zbr := lt_of_cell e0
          clear hrl
          go_wp2_with fail
          refine HRO.out.mono ?_
          rintro e w5 ⟨ql, qw, dl, dw, rfl, hL, hC, hdl, hdl2, hb5⟩
          obtain ⟨r', b5, o5, q5, d5, hr', rfl, s0, hci⟩ := hL.nth (k := 0) (by simp)
          simp only [List.cons_append, List.getElem?_cons_zero, Option.some.injEq] at hr'
          subst hr'
          rw [Nat.add_zero, ← HRLE.out] at s0
          have zb5 := lt_of_cell s0
          have HB5 : Hid (Below w7.heap.size w7 w5) := HBR.out.trans (hb5.mono HBR.out.size)
          have HBW5 : Hid (Below W.heap.size W w5) := HBW.out.trans (hb5.mono HBW.out.size)
          have HL5 := Lib.hid hL
          have HC5 := Lib.hid hC
          have HRR5 : Hid (RowsIn w5 (some ⟨b, o + k, none⟩) [r]) := by
            intro i hi
            have hi0 : i = 0 := by simp at hi; omega
            subst hi0
            exact ⟨b, o + k, q, d, rfl, by
              have := (hb5.cell (p := ⟨b, o + k, none⟩) zbr).trans e0
              rw [HRLE.out] at this
              simpa using this, HCR.out.below hb5⟩
          have c0' := (hb5.cell (p := ⟨g, 0, none⟩) zgr).trans c0
          have c1' := (hb5.cell (p := ⟨g, 1, none⟩) zgr).trans c1
          have m8a' := (hb5.cell (p := ⟨g8, 0, none⟩) z8r).trans m8a
          have m8b' := (hb5.cell (p := ⟨g8, 1, none⟩) z8r).trans m8b
          have f0 := (hb5.cell (p := ⟨b, o + k, none⟩) zbr).trans e0
          have zg5 : g < w5.heap.size := Nat.lt_of_lt_of_le zgr hb5.size
          have z85 : g8 < w5.heap.size := Nat.lt_of_lt_of_le z8r hb5.size
          have zbr5 : b < w5.heap.size := Nat.lt_of_lt_of_le zbr hb5.size
          have hcr5 := HCR.out.below hb5
          have HEVM : Hid (∀ wx, Below w5.heap.size w5 wx → Calls Tryz.prog 11 #[.agg #[.string nm, .slice (some ⟨ga, 0, none⟩) m (m + 20)], .slice q5 rl d5] wx (EventIs wx nm (kdL l) r)) := fun wx hx => by
            rw [HMM.out, HRLE.out]
            exact event_any nm (some ⟨ga, 0, none⟩) l _ q5 r d5 wx (HVV.out.below (HBW5.out.trans (hx.mono HBW5.out.size))) (HA7.out.below (HB5.out.trans (hx.mono HB5.out.size))) (hci.below hx) (by rw [← HMM.out]; omega) (by have := HRL.out; omega)
          have HEVR : Hid (∀ wx, Below w5.heap.size w5 wx → Calls Tryz.prog 19 #[.agg #[.string nm, .slice p m c], .slice q rl d] wx (EventIs wx nm (kdL l) r)) := fun wx hx => by
            rw [HMM.out, HRLE.out]
            exact refEvent_any nm p l c q r d wx (HA0.out.below (HBW5.out.trans (hx.mono HBW5.out.size))) (hcr5.below hx) (by rw [← HMM.out]; omega) (by have := HRL.out; omega)
          have hl1 : ([r] : List (List Cell)).length = 1 := rfl
          rw [hl1] at hdl ⊢
          clear hL hC hci hb5 c0 c1 m8a m8b e0 zgr z8r zbr HRO hcr5 hl1
          go_upto_region 15 with fail
          have nA : ¬ (g8 = w5.heap.size) := by omega
          have nB : ¬ (b5 = w5.heap.size) := by omega
          have nA' : ¬ (w5.heap.size = g8) := by omega
          have nB' : ¬ (w5.heap.size = b5) := by omega
          go_cut [14, 15] from 69 to 76 (fun s14 s15 wx => ∃ (g14 : Nat) (s : ByteArray) (tm : Int) (pv : Option Addr) (nv cv : Nat) (E : Int), s14 = .pointer (some ⟨g14, 0, none⟩) ∧ s15 = .int .i64 E ∧ Below w5.heap.size w5 wx ∧ EvCells wx g14 s tm pv nv cv ∧ EvRel wx 0 nm (kdL l) r s tm pv nv cv E)
          case first =>
            go_region_law (first | (go_simp; go_at_call 11; refine (HEVM.out _ (by repeat (first | assumption | exact Below.refl _ _ | apply Below.drew | refine Below.alloc ?_ (by first | exact Nat.le_refl _ | simp) _))).mono ?_; intro e w8 hev0; obtain ⟨s, tm, pv, nv, cv, E, rfl, hb8, hrel8⟩ := evRel_of hev0; obtain ⟨hc8, hf8⟩ := bcell hb8))
            all_goals
              have hsz := hb8.size
              simp at hsz
              go_wp2_with fail
              go_meet
              clear HM HVV HA0 HR0 HE0 HRS HPN HB7 HO7 HA7 HBW HBR HCR HRL HB5 HBW5 HL5 HC5 HRR5 HEVM HEVR
              try (exact ⟨w8.heap.size, s, tm, pv, nv, cv, E, rfl, rfl, ((Below.refl _ _).drew.trans hb8).alloc hsz _, ⟨by simp [go_sem], by simp [go_sem], by simp [go_sem]⟩, hrel8.below ((Below.refl _ _).alloc (Nat.le_refl _) _)⟩)
            all_goals
              have q0 := hc8 w5.heap.size 0 (by simp)
              have q1 := hc8 w5.heap.size 1 (by simp)
              have q2 := hc8 w5.heap.size 2 (by simp)
              simp [go_sem] at q0 q1 q2
              have hb7 : Below w5.heap.size w5 w8 := by
                refine Below.trans ?_ (hb8.mono (by simp))
                repeat (first | exact Below.refl _ _ | apply Below.drew | refine Below.alloc ?_ (by first | exact Nat.le_refl _ | simp) _)
              exact ⟨w5.heap.size, s, tm, pv, nv, cv, E, rfl, rfl, ((hb7.setCell (p := ⟨w5.heap.size, 0, none⟩) (Nat.le_refl _) _).setCell (p := ⟨w5.heap.size, 1, none⟩) (Nat.le_refl _) _).setCell (p := ⟨w5.heap.size, 2, none⟩) (Nat.le_refl _) _, ⟨by simp [go_sem, q0, q1, q2], by simp [go_sem, q0, q1, q2], by simp [go_sem, q0, q1, q2]⟩, (((hrel8.set (by simp)).set (by simp)).set (by simp)).below (Below.refl _ _)⟩
          case rest =>
          obtain ⟨gA, sA, tA, pA, kA, cA, EA, rfl, rfl, hbA, hcA, hrA⟩ := hcut
          obtain ⟨wd, ewd⟩ : ∃ x, x = wc := ⟨_, rfl⟩
          subst ewd
          have HBd : Hid (Below w7.heap.size w7 wd) := HB5.out.trans (hbA.mono HB5.out.size)
          have HBWd : Hid (Below W.heap.size W wd) := HBW5.out.trans (hbA.mono HBW5.out.size)
          have HLd := Lib.hid (HL5.out.below hbA)
          have HCd := Lib.hid (HC5.out.below hbA)
          have HRRd := Lib.hid (HRR5.out.below hbA)
          have x0 := (hbA.cell (p := ⟨g, 0, none⟩) zg5).trans c0'
          have x1 := (hbA.cell (p := ⟨g, 1, none⟩) zg5).trans c1'
          have y0 := (hbA.cell (p := ⟨b, o + k, none⟩) zbr5).trans f0
          have zgd : g < wd.heap.size := Nat.lt_of_lt_of_le zg5 hbA.size
          have zbd : b < wd.heap.size := Nat.lt_of_lt_of_le zbr5 hbA.size
          have HEVRd : Hid (∀ wx, Below wd.heap.size wd wx → Calls Tryz.prog 19 #[.agg #[.string nm, .slice p m c], .slice q rl d] wx (EventIs wx nm (kdL l) r)) := fun wx hx => HEVR.out wx (hbA.trans (hx.mono hbA.size))
          have HCA := Lib.hid hcA
          have HRA := Lib.hid hrA
          have zgA := lt_of_cell hcA.1
          clear hbA hcA hrA nA nB nA' nB' c0' c1' m8a' m8b' f0 zg5 z85 zbr5 zb5 s0 HEVM HEVR HL5 HC5 HRR5 HB5 HBW5
          go_upto_region 16 with fail
          have nA : ¬ (g = wd.heap.size) := by omega
          have nB : ¬ (b = wd.heap.size) := by omega
          have nA' : ¬ (wd.heap.size = g) := by omega
          have nB' : ¬ (wd.heap.size = b) := by omega
          go_cut [16, 17] from 77 to 85 (fun s14 s15 wx => ∃ (g14 : Nat) (s : ByteArray) (tm : Int) (pv : Option Addr) (nv cv : Nat) (E : Int), s14 = .pointer (some ⟨g14, 0, none⟩) ∧ s15 = .int .i64 E ∧ Below wd.heap.size wd wx ∧ EvCells wx g14 s tm pv nv cv ∧ EvRel wx 0 nm (kdL l) r s tm pv nv cv E)
          case first =>
            go_region_law (first | (go_simp; go_at_call 19; refine (HEVRd.out _ (by repeat (first | assumption | exact Below.refl _ _ | apply Below.drew | refine Below.alloc ?_ (by first | exact Nat.le_refl _ | simp) _))).mono ?_; intro e w8 hev0; obtain ⟨s, tm, pv, nv, cv, E, rfl, hb8, hrel8⟩ := evRel_of hev0; obtain ⟨hc8, hf8⟩ := bcell hb8))
            all_goals
              have hsz := hb8.size
              simp at hsz
              go_wp2_with fail
              go_meet
              clear HM HVV HA0 HR0 HE0 HRS HPN HB7 HO7 HA7 HBW HBR HCR HRL HBd HBWd HLd HCd HRRd HCA HRA
              try (exact ⟨w8.heap.size, s, tm, pv, nv, cv, E, rfl, rfl, ((Below.refl _ _).drew.trans hb8).alloc hsz _, ⟨by simp [go_sem], by simp [go_sem], by simp [go_sem]⟩, hrel8.below ((Below.refl _ _).alloc (Nat.le_refl _) _)⟩)
            all_goals
              have q0 := hc8 wd.heap.size 0 (by simp)
              have q1 := hc8 wd.heap.size 1 (by simp)
              have q2 := hc8 wd.heap.size 2 (by simp)
              simp [go_sem] at q0 q1 q2
              have hb7 : Below wd.heap.size wd w8 := by
                refine Below.trans ?_ (hb8.mono (by simp))
                repeat (first | exact Below.refl _ _ | apply Below.drew | refine Below.alloc ?_ (by first | exact Nat.le_refl _ | simp) _)
              exact ⟨wd.heap.size, s, tm, pv, nv, cv, E, rfl, rfl, ((hb7.setCell (p := ⟨wd.heap.size, 0, none⟩) (Nat.le_refl _) _).setCell (p := ⟨wd.heap.size, 1, none⟩) (Nat.le_refl _) _).setCell (p := ⟨wd.heap.size, 2, none⟩) (Nat.le_refl _) _, ⟨by simp [go_sem, q0, q1, q2], by simp [go_sem, q0, q1, q2], by simp [go_sem, q0, q1, q2]⟩, (((hrel8.set (by simp)).set (by simp)).set (by simp)).below (Below.refl _ _)⟩
          case rest =>
          obtain ⟨gB, sB, tB, pB, kB, cB, EB, rfl, rfl, hbB, hcB, hrB⟩ := hcut
          obtain ⟨we, ewe⟩ : ∃ x, x = wc := ⟨_, rfl⟩
          subst ewe
          have HBe : Hid (Below w7.heap.size w7 we) := HBd.out.trans (hbB.mono HBd.out.size)
          have HLe := Lib.hid (HLd.out.below hbB)
          have HCe := Lib.hid (HCd.out.below hbB)
          have HRRe := Lib.hid (HRRd.out.below hbB)
          have hA0 := (hbB.cell (p := ⟨gA, 0, none⟩) zgA).trans HCA.out.1
          have hA1 := (hbB.cell (p := ⟨gA, 1, none⟩) zgA).trans HCA.out.2.1
          have hA2 := (hbB.cell (p := ⟨gA, 2, none⟩) zgA).trans HCA.out.2.2
          obtain ⟨hB0, hB1, hB2⟩ := hcB
          have hrA := HRA.out.below hbB
          have hboth : ∃ vl : List V4, EA = EB ∧ sA = sB ∧ tA = tB ∧ kA = vl.length ∧ kB = vl.length ∧ ValRow we pA vl ∧ ValRow we pB vl ∧ vl.length ≤ 100000000 := by
            rcases hrA.2 with ⟨a1, a2, vl, a3, a4, a5, a6⟩ | ⟨a1, a2, a3, a4, a5, a6, a7, a8⟩ <;> rcases hrB.2 with ⟨b1, b2, vl', b3, b4, b5', b6⟩ | ⟨b1, b2, b3, b4, b5', b6, b7, b8⟩
            · obtain ⟨rfl, rfl⟩ := rowC_inj a5 b5' (a6.trans b6.symm)
              exact ⟨vl, a1.trans b1.symm, a2.trans b2.symm, rfl, a3, b3, a4, b4, by have := a5.len; have h2 := HMM.out; simp [kdL] at this; omega⟩
            · exact absurd a6 (b7 _ _ a5)
            · exact absurd b6 (a7 _ _ b5')
            · exact ⟨[], a8.same b8, a2.trans b2.symm, a3.trans b3.symm, a5, b5', fun i hi => absurd hi (Nat.not_lt_zero _), fun i hi => absurd hi (Nat.not_lt_zero _), by simp⟩
          obtain ⟨vl, rfl, rfl, rfl, hkA, hkB, hvA, hvB, hvl⟩ := hboth
          have hSE := sameEvent_any sA tA vl pA pB cA cB we hvA hvB hvl
          obtain rfl : kB = kA := hkB.trans hkA.symm
          rw [← hkA] at hSE
          have HSE := Lib.hid hSE
          clear hbB hrA hrB hkA hkB hvA hvB hvl hSE nA nB nA' nB' x0 x1 y0 zgd zbd HEVRd HCA HRA zgA HLd HCd HRRd HBd HBWd
          go_wp2_with fail
          refine HSE.out.mono ?_
          rintro e w9 ⟨rfl, hb9⟩
          have HB9 : Hid (Below w7.heap.size w7 w9) := HBe.out.trans (hb9.mono HBe.out.size)
          have hUT := untouched_any [r] (some ⟨b5, o5, none⟩) qw (some ⟨b, o + k, none⟩) dl dw (rc - k) w9 (HLe.out.below hb9) (HCe.out.below hb9) (HRRe.out.below hb9) (by simp) (by
            intro x hx
            simp only [List.mem_singleton] at hx
            rw [hx]
            exact HRL.out)
          have HUT := Lib.hid hUT
          clear hb9 hUT hA0 hA1 hA2 hB0 hB1 hB2 HSE
          go_wp2_with fail
          refine HUT.out.mono ?_
          rintro e w10 ⟨rfl, hb10⟩
          have HB10 : Hid (Below w7.heap.size w7 w10) := HB9.out.trans (hb10.mono HB9.out.size)
          clear hb10 HUT
          go_wp2
          go_roundw
          case rel => exact ⟨k + 1, by omega, by go_num, HB10.out⟩
          case measure => simp [intOf]; omega
        · have hk2 : k = rn := by omega
          subst hk2
          obtain ⟨w11, hw11⟩ : ∃ x, x = wr := ⟨_, rfl⟩
          subst hw11
          go_wp2
          go_loopw [18] (fun iv wx => ∃ k : Nat, k ≤ en ∧ iv = .int .i64 k ∧ Below w11.heap.size w11 wx) (fun iv _ => en - (intOf iv).toNat)
          case atStart => exact ⟨0, Nat.zero_le _, rfl, Below.refl _ _⟩
          case round =>
            obtain ⟨n3, hk, rfl, hbr⟩ := hrel
            obtain ⟨wE, hwE⟩ : ∃ x, x = wr := ⟨_, rfl⟩
            subst hwE
            have HBE := Lib.hid hbr
            have HBWE : Hid (Below W.heap.size W wE) := HBW.out.trans (hbr.mono HBW.out.size)
            have HB7E : Hid (Below w7.heap.size w7 wE) := HBR.out.trans (hbr.mono HBR.out.size)
            have d0 := (hbr.cell (p := ⟨g, 0, none⟩) zgr).trans c0
            have d1 := (hbr.cell (p := ⟨g, 1, none⟩) zgr).trans c1
            have n8a := (hbr.cell (p := ⟨g8, 0, none⟩) z8r).trans m8a
            have n8b := (hbr.cell (p := ⟨g8, 1, none⟩) z8r).trans m8b
            have zgE : g < wE.heap.size := Nat.lt_of_lt_of_le zgr hbr.size
            have z8E : g8 < wE.heap.size := Nat.lt_of_lt_of_le z8r hbr.size
            clear hbr
            by_cases hlt : n3 < en
            · obtain ⟨b, o, ty, tm, q, vl, d, rfl, e0, e1, e2, hqd, hti, hvlen, hvr, hvi⟩ := (HE0.out.below HBWE.out) n3 hlt
              obtain ⟨n, hn⟩ : ∃ n, n = vl.length := ⟨_, rfl⟩
              have hqn : q = none → d = 0 ∧ n = 0 := fun h => ⟨hqd h, by
                rcases Nat.eq_zero_or_pos n with h0 | h0
                · exact h0
                · obtain ⟨b, o, e, _⟩ := hvr 0 (by omega)
                  rw [h] at e
                  cases e⟩
              have HN := Lib.hid hn
              have HQN := Lib.hid hqn
              have HTI := Lib.hid hti
              have HVR := Lib.hid hvr
              have HVI := Lib.hid hvi
              rw [← hn] at e2 hvlen
              have zbE := lt_of_cell e0
              have hnl : (cells4 vl).length = n * 4 := by rw [cells4_len, ← HN.out]
              have hb63 : 0 + n ≤ maxLen := by unfold maxLen; omega
              have hbb : (0 + n) * 40 ≤ 140737488355328 := by omega
              clear hn hqn hti hvr hvi hqd
              go_wp2_with (at_builtin; refine wpList_catG rfl _ _ 39 57 rfl wE.heap.size iV (.agg #[.int .i64 0, .int .i64 0, .string ⟨#[]⟩, .bool false]) 4 40 Tryz.underlying39 hiV b0 b1 b2 rfl (by decide) (.slice none 0 0) 0 [] rfl (World.ownsRow_nil _ _ _ _) q d n (cells4 vl) rfl hnl (val_news HVR.out) (cells4_one vl) HQN.out hb63 hbb (Nat.le_refl _) n (by omega) ?_)
              intro vp vc w12 hown12 hgr12
              have hb12 : Below wE.heap.size wE w12 := (Below.refl _ _).grown hgr12 (Nat.le_refl _) (fun k hk => by cases hk)
              have HB12 := Lib.hid hb12
              have HO12 : Hid (w12.ownsRow wE.heap.size 57 4 (.slice vp (n + 0) vc) (n + 0) (cells4 (vl ++ mkvs 0))) := by
                show World.ownsRow _ _ _ _ _ _ _
                simpa [mkvs] using hown12
              clear hown12 hgr12 hb12 hb63 hbb hnl
              go_wp2
              go_loopw [19, 20] (fun av iv wx => ∃ (j : Nat) (vp : Option Addr) (vc : Nat), j ≤ 20 ∧ iv = .int .i64 j ∧ av = .slice vp (n + j) vc ∧ Below wE.heap.size wE wx ∧ wx.ownsRow wE.heap.size 57 4 (.slice vp (n + j) vc) (n + j) (cells4 (vl ++ mkvs j))) (fun _ iv _ => 20 - (intOf iv).toNat)
              case atStart => exact ⟨0, vp, vc, by omega, rfl, rfl, HB12.out, HO12.out⟩
              case round =>
                clear HB12 HO12
                obtain ⟨j, vp, vc, hj, rfl, rfl, hbr, hown⟩ := hrel
                have HB13 := Lib.hid hbr
                have HO13 := Lib.hid hown
                have HZR : Hid (wE.heap.size ≤ wr.heap.size) := hbr.size
                clear hbr hown
                by_cases hlj : j < 20
                · have hm1 : n + j + 1 ≤ maxLen := by unfold maxLen; omega
                  have hm2 : (n + j + 1) * 40 ≤ 140737488355328 := by omega
                  have hw77 : IntKind.i64.wrap (77 + (j : Int)) = 77 + (j : Int) := IntWalk.i64_in _ (by omega)
                  have HZ6 : Hid (∀ o : Obj, wE.heap.size ≤ (wr.alloc o).heap.size) := fun o => (by have := HZR.out; simp; omega)
                  go_wp2_with (at_builtin; refine wpList_append_lies _ rfl _ _ 39 rfl wE.heap.size 57 iV (.agg #[.int .i64 0, .int .i64 0, .string ⟨#[]⟩, .bool false]) 4 40 Tryz.underlying39 hiV b0 b1 b2 rfl (by decide) _ _ _ rfl (World.ownsRow.alloc HO13.out _) ⟨wr.heap.size, 0, none⟩ 1 1 [.int .i64 (77 + (j : Int)), .int .i64 0, .string ⟨#[]⟩, .bool false] rfl rfl (lit_cells wr _ _) (by intro u hu; simp at hu; rcases hu with rfl | rfl | rfl | rfl <;> rfl) (by decide) hm1 hm2 (HZ6.out _) (wr.heap.size + 1) (by simp) ?_)
                  intro gc capc wa owna hgra hwha hlta
                  have HBa : Hid (Below wE.heap.size wE wa) := (HB13.out.alloc HZR.out _).grown hgra (HZ6.out _) (fun x hx => (World.ownsRow.lt HO13.out x hx).1)
                  have HOa : Hid (wa.ownsRow wE.heap.size 57 4 (.slice (some ⟨gc, 0, none⟩) (n + j + 1) capc) (n + j + 1) (cells4 (vl ++ mkvs (j + 1)))) := by
                    rw [mkvs_succ, ← List.append_assoc, ← cells4_snoc]
                    exact owna
                  clear owna hgra hwha hlta hm1 hm2
                  go_wp2
                  go_roundw
                  case rel => exact ⟨j + 1, some ⟨gc, 0, none⟩, capc, by omega, by go_num, by simp [Nat.add_assoc], HBa.out, by simpa [Nat.add_assoc] using HOa.out⟩
                  case measure => simp [intOf]; omega
                · have hj20 : j = 20 := by omega
                  subst hj20
                  obtain ⟨gv, hvp, hcap⟩ : ∃ gv, vp = some ⟨gv, 0, none⟩ ∧ n + 20 ≤ vc ∧ vc ≤ maxLen := by
                    rcases HO13.out.2 with ⟨e, e0⟩ | ⟨ga, cap, cur, e, _, _, h1, h2, _⟩
                    · omega
                    · simp only [Value.slice.injEq] at e
                      obtain ⟨rfl, _, rfl⟩ := e
                      exact ⟨ga, rfl, h1, h2⟩
                  subst hvp
                  obtain ⟨hcap1, hcap2⟩ := hcap
                  have hgv : wE.heap.size ≤ gv := by
                    rcases HO13.out.2 with ⟨e, e0⟩ | ⟨gb, cap, cur, e, hg, _⟩
                    · omega
                    · simp only [Value.slice.injEq, Option.some.injEq, Addr.mk.injEq] at e
                      obtain ⟨⟨rfl, _⟩, _⟩ := e
                      exact hg
                  have HVALL := Lib.hid (own_vals HO13.out)
                  obtain ⟨wF, hwF⟩ : ∃ x, x = wr := ⟨_, rfl⟩
                  subst hwF
                  have f0 := (HB13.out.cell (p := ⟨b, o + n3 * 3, none⟩) zbE).trans e0
                  have f1 := (HB13.out.cell (p := ⟨b, o + n3 * 3 + 1, none⟩) zbE).trans e1
                  have f2 := (HB13.out.cell (p := ⟨b, o + n3 * 3 + 2, none⟩) zbE).trans e2
                  have s0 := (HB13.out.cell (p := ⟨g, 0, none⟩) zgE).trans d0
                  have s1 := (HB13.out.cell (p := ⟨g, 1, none⟩) zgE).trans d1
                  have s8a := (HB13.out.cell (p := ⟨g8, 0, none⟩) z8E).trans n8a
                  have s8b := (HB13.out.cell (p := ⟨g8, 1, none⟩) z8E).trans n8b
                  have zgF : g < wF.heap.size := Nat.lt_of_lt_of_le zgE HB13.out.size
                  have z8F : g8 < wF.heap.size := Nat.lt_of_lt_of_le z8E HB13.out.size
                  have zbF : b < wF.heap.size := Nat.lt_of_lt_of_le zbE HB13.out.size
                  clear d0 d1 n8a n8b e0 e1 e2
                  have hgvF : gv < wF.heap.size := by
                    have := lt_of_cell (valRow_mark (vl := vl) HVALL.out (j := 0) (by omega))
                    exact this
                  have hnm : (n : Int) ≤ (n : Int) + 20 := by omega
                  have hcc : (n : Int) + 20 ≤ (vc : Int) := by omega
                  go_upto_region 28 with fail
                  obtain ⟨gx, hgx⟩ : ∃ gx, gx = wF.heap.size := ⟨_, rfl⟩
                  obtain ⟨w13, hw13⟩ : ∃ x, x = wF.alloc (Obj.cells #[.string ty, .int .i64 tm, .slice q n d] 41) := ⟨_, rfl⟩
                  have hal : Below wF.heap.size wF w13 := by rw [hw13]; exact (Below.refl _ _).alloc (Nat.le_refl _) _
                  have x0 : w13.cell? ⟨gx, 0, none⟩ = some (.string ty) := by rw [hw13, hgx]; simp [go_sem]
                  have x1 : w13.cell? ⟨gx, 1, none⟩ = some (.int .i64 tm) := by rw [hw13, hgx]; simp [go_sem]
                  have x2 : w13.cell? ⟨gx, 2, none⟩ = some (.slice q n d) := by rw [hw13, hgx]; simp [go_sem]
                  have xf : w13.frozen? ⟨gx, 2, none⟩ = false := by rw [hw13, hgx]; simp [go_sem]
                  have y2 := (hal.cell (p := ⟨b, o + n3 * 3 + 2, none⟩) zbF).trans f2
                  have HGX : Hid (gx = wF.heap.size) := hgx
                  have HAL := Lib.hid hal
                  have zx13 : gx < w13.heap.size := by rw [hw13, hgx]; simp
                  rw [← hw13, ← hgx]
                  clear hw13 hgx hal
                  go_upto_region 29 with fail
                  obtain ⟨w14, hw14⟩ : ∃ x, x = w13.setCell ⟨gx, 2, none⟩ (.slice (some ⟨gv, 0, none⟩) n (n + 20)) := ⟨_, rfl⟩
                  have hb14 : Below wF.heap.size wF w14 := by rw [hw14]; exact HAL.out.setCell (p := ⟨gx, 2, none⟩) (by rw [HGX.out]; exact Nat.le_refl _) _
                  have u0 : w14.cell? ⟨gx, 0, none⟩ = some (.string ty) := by rw [hw14]; simp [go_sem, x0, x1, x2]
                  have u1 : w14.cell? ⟨gx, 1, none⟩ = some (.int .i64 tm) := by rw [hw14]; simp [go_sem, x0, x1, x2]
                  have u2 : w14.cell? ⟨gx, 2, none⟩ = some (.slice (some ⟨gv, 0, none⟩) n (n + 20)) := by rw [hw14]; simp [go_sem, x0, x1, x2]
                  have zx14 : gx < w14.heap.size := by rw [hw14]; simp [World.setCell]; exact zx13
                  have y0 := (hb14.cell (p := ⟨b, o + n3 * 3, none⟩) zbF).trans f0
                  have y1 := (hb14.cell (p := ⟨b, o + n3 * 3 + 1, none⟩) zbF).trans f1
                  have y2 := (hb14.cell (p := ⟨b, o + n3 * 3 + 2, none⟩) zbF).trans f2
                  have t0 := (hb14.cell (p := ⟨g, 0, none⟩) zgF).trans s0
                  have t1 := (hb14.cell (p := ⟨g, 1, none⟩) zgF).trans s1
                  have t8a := (hb14.cell (p := ⟨g8, 0, none⟩) z8F).trans s8a
                  have t8b := (hb14.cell (p := ⟨g8, 1, none⟩) z8F).trans s8b
                  have zg14 : g < w14.heap.size := Nat.lt_of_lt_of_le zgF hb14.size
                  have zb14 : b < w14.heap.size := Nat.lt_of_lt_of_le zbF hb14.size
                  have HB14 : Hid (Below wE.heap.size wE w14) := HB13.out.trans (hb14.mono HB13.out.size)
                  have HBW14 : Hid (Below W.heap.size W w14) := HBWE.out.trans (HB14.out.mono HBWE.out.size)
                  have HB714 : Hid (Below w7.heap.size w7 w14) := HB7E.out.trans (HB14.out.mono HB7E.out.size)
                  have HV14 := Lib.hid (HVALL.out.below hb14)
                  have HVQ14 := Lib.hid ((HVR.out.below HB13.out).below hb14)
                  have HRW : Hid (Calls Tryz.prog 14 #[.agg #[.string nm, .slice (some ⟨ga, 0, none⟩) m (m + 20)], .agg #[.string ty, .int .i64 tm, .slice (some ⟨gv, 0, none⟩) n (n + 20)]] w14 (RowIs2 w14 nm ty (kdL l) tm vl)) := by
                    show Calls _ _ _ _ _
                    rw [HMM.out, HN.out]
                    exact row2_any nm (some ⟨ga, 0, none⟩) l _ ty tm (some ⟨gv, 0, none⟩) vl _ w14 (HVV.out.below HBW14.out) (HA7.out.below HB714.out) (valRow_pre HV14.out) HVI.out (by rw [← HMM.out]; omega) (by rw [← HN.out]; omega)
                  rw [← hw14]
                  clear hw14 hb14 x0 x1 x2 xf f0 f1 f2 s0 s1 s8a s8b zgF z8F zbF zx13 HAL HVALL HVR HO13 HZR HGX hgvF
                  go_wp2_with fail
                  refine HRW.out.mono ?_
                  intro e w15 hro
                  obtain ⟨pa, na, ca, EA, rfl, hb15, hra⟩ := rowRel_of hro
                  have v0 := (hb15.cell (p := ⟨b, o + n3 * 3, none⟩) zb14).trans y0
                  have v1 := (hb15.cell (p := ⟨b, o + n3 * 3 + 1, none⟩) zb14).trans y1
                  have v2 := (hb15.cell (p := ⟨b, o + n3 * 3 + 2, none⟩) zb14).trans y2
                  have x0 := (hb15.cell (p := ⟨gx, 0, none⟩) zx14).trans u0
                  have x1 := (hb15.cell (p := ⟨gx, 1, none⟩) zx14).trans u1
                  have x2 := (hb15.cell (p := ⟨gx, 2, none⟩) zx14).trans u2
                  have r0 := (hb15.cell (p := ⟨g, 0, none⟩) zg14).trans t0
                  have r1 := (hb15.cell (p := ⟨g, 1, none⟩) zg14).trans t1
                  have zg15 : g < w15.heap.size := Nat.lt_of_lt_of_le zg14 hb15.size
                  have zb15 : b < w15.heap.size := Nat.lt_of_lt_of_le zb14 hb15.size
                  have zx15 : gx < w15.heap.size := Nat.lt_of_lt_of_le zx14 hb15.size
                  have HB15 : Hid (Below wE.heap.size wE w15) := HB14.out.trans (hb15.mono HB14.out.size)
                  have HBW15 : Hid (Below W.heap.size W w15) := HBW14.out.trans (hb15.mono HBW14.out.size)
                  have HV15 := Lib.hid (HV14.out.below hb15)
                  have HVQ15 := Lib.hid (HVQ14.out.below hb15)
                  have HRA := Lib.hid hra
                  have HRF : Hid (∀ wx, Below w15.heap.size w15 wx → Calls Tryz.prog 21 #[.agg #[.string nm, .slice p m c], .agg #[.string ty, .int .i64 tm, .slice q n d]] wx (RowIs2 wx nm ty (kdL l) tm vl)) := fun wx hx => by
                    rw [HMM.out, HN.out]
                    exact refRow_any nm p l c ty tm q vl d wx (HA0.out.below (HBW15.out.trans (hx.mono HBW15.out.size))) (HVQ15.out.below hx) HVI.out HTI.out (by rw [← HMM.out]; omega) (by rw [← HN.out]; omega)
                  have HS : Hid (∀ wx, Below w15.heap.size w15 wx → Below w15.heap.size w15 wx ∧ wx.cell? ⟨g, 0, none⟩ = some (.string nm) ∧ wx.cell? ⟨g, 1, none⟩ = some (.slice p m c) ∧ wx.cell? ⟨b, o + n3 * 3, none⟩ = some (.string ty) ∧ wx.cell? ⟨b, o + n3 * 3 + 1, none⟩ = some (.int .i64 tm) ∧ wx.cell? ⟨b, o + n3 * 3 + 2, none⟩ = some (.slice q n d)) := fun wx hx => ⟨hx, (hx.cell (p := ⟨g, 0, none⟩) zg15).trans r0, (hx.cell (p := ⟨g, 1, none⟩) zg15).trans r1, (hx.cell (p := ⟨b, o + n3 * 3, none⟩) zb15).trans v0, (hx.cell (p := ⟨b, o + n3 * 3 + 1, none⟩) zb15).trans v1, (hx.cell (p := ⟨b, o + n3 * 3 + 2, none⟩) zb15).trans v2⟩
                  clear hb15 hro hra y0 y1 y2 u0 u1 u2 t0 t1 t8a t8b zg14 zb14 zx14 HRW HV14 HVQ14 HB14 HBW14 HB714
                  go_upto_region 30 with fail
                  go_cut [24, 25] from 149 to 157 (fun s24 s25 wx => ∃ (pb : Option Addr) (nb cb : Nat) (EB : Int), s24 = .slice pb nb cb ∧ s25 = .int .i64 EB ∧ Below w15.heap.size w15 wx ∧ RowRel wx nm ty (kdL l) tm vl pb nb EB)
                  case first =>
                    go_region_law (first | (go_simp; go_at_call 21; refine (HRF.out _ (by repeat (first | assumption | exact Below.refl _ _ | apply Below.drew))).mono ?_; intro e w16 hro; obtain ⟨pb, nb, cb, EB, rfl, hb16, hrb⟩ := rowRel_of hro))
                    all_goals
                      go_wp2_with fail
                      go_meet
                      exact ⟨pb, nb, cb, EB, rfl, rfl, by first | exact hb16 | exact (Below.refl _ _).drew.trans hb16, hrb⟩
                  case rest =>
                  obtain ⟨pb, nb, cb, EB, rfl, rfl, hbB, hrB⟩ := hcut
                  obtain ⟨w16, hw16⟩ : ∃ x, x = wc := ⟨_, rfl⟩
                  subst hw16
                  have hrA := HRA.out.below hbB
                  obtain ⟨hEE, C, hna, hnb, hca, hcb, hCl⟩ := hrA.both hrB
                  subst hEE
                  obtain rfl : nb = na := hnb.trans hna.symm
                  have w0 := (hbB.cell (p := ⟨b, o + n3 * 3, none⟩) zb15).trans v0
                  have w1 := (hbB.cell (p := ⟨b, o + n3 * 3 + 1, none⟩) zb15).trans v1
                  have w2 := (hbB.cell (p := ⟨b, o + n3 * 3 + 2, none⟩) zb15).trans v2
                  have y0 := (hbB.cell (p := ⟨gx, 0, none⟩) zx15).trans x0
                  have y1 := (hbB.cell (p := ⟨gx, 1, none⟩) zx15).trans x1
                  have y2 := (hbB.cell (p := ⟨gx, 2, none⟩) zx15).trans x2
                  have zb16 : b < w16.heap.size := Nat.lt_of_lt_of_le zb15 hbB.size
                  have zx16 : gx < w16.heap.size := Nat.lt_of_lt_of_le zx15 hbB.size
                  have HB16 : Hid (Below wE.heap.size wE w16) := HB15.out.trans (hbB.mono HB15.out.size)
                  have HV16 := Lib.hid (HV15.out.below hbB)
                  have HVQ16 := Lib.hid (HVQ15.out.below hbB)
                  have HSR : Hid (∀ wx, Below w16.heap.size w16 wx → Calls Tryz.prog 15 #[.slice pa nb ca, .slice pb nb cb] wx fun e w' => e = .returned (.bool true) ∧ Below wx.heap.size wx w') := fun wx hx => by
                    rw [hna]
                    exact sameRow_any C pa pb ca cb wx (hca.below hx) (hcb.below hx) (by unfold maxLen; have := HN.out; omega)
                  have HSE : Hid (∀ wx, Below w16.heap.size w16 wx → Calls Tryz.prog 12 #[.agg #[.string ty, .int .i64 tm, .slice (some ⟨gv, 0, none⟩) n (n + 20)], .agg #[.string ty, .int .i64 tm, .slice q n d]] wx fun e w' => e = .returned (.bool true) ∧ Below wx.heap.size wx w') := fun wx hx => by
                    rw [HN.out]
                    exact sameEvent_any ty tm vl (some ⟨gv, 0, none⟩) q _ d wx ((valRow_pre HV16.out).below hx) (HVQ16.out.below hx) (by rw [← HN.out]; omega)
                  have HS16 : Hid (∀ wx, Below w16.heap.size w16 wx → Below w16.heap.size w16 wx ∧ wx.cell? ⟨gx, 0, none⟩ = some (.string ty) ∧ wx.cell? ⟨gx, 1, none⟩ = some (.int .i64 tm) ∧ wx.cell? ⟨gx, 2, none⟩ = some (.slice (some ⟨gv, 0, none⟩) n (n + 20)) ∧ wx.cell? ⟨b, o + n3 * 3, none⟩ = some (.string ty) ∧ wx.cell? ⟨b, o + n3 * 3 + 1, none⟩ = some (.int .i64 tm) ∧ wx.cell? ⟨b, o + n3 * 3 + 2, none⟩ = some (.slice q n d)) := fun wx hx => ⟨hx, (hx.cell (p := ⟨gx, 0, none⟩) zx16).trans y0, (hx.cell (p := ⟨gx, 1, none⟩) zx16).trans y1, (hx.cell (p := ⟨gx, 2, none⟩) zx16).trans y2, (hx.cell (p := ⟨b, o + n3 * 3, none⟩) zb16).trans w0, (hx.cell (p := ⟨b, o + n3 * 3 + 1, none⟩) zb16).trans w1, (hx.cell (p := ⟨b, o + n3 * 3 + 2, none⟩) zb16).trans w2⟩
                  have hee : (EA != EA) = false := by simp
                  clear hbB hrA hrB hna hnb hca hcb hCl v0 v1 v2 x0 x1 x2 r0 r1 zb15 zx15 zg15 HRA HRF HS HV15 HVQ15 HB15 HBW15
                  go_upto_region 31 with fail
                  go_cut [175] from 158 to 175 (fun sb wx => sb = .bool false ∧ Below w16.heap.size w16 wx)
                  case first =>
                    go_region_held3 (fun wx => Below w16.heap.size w16 wx ∧ wx.cell? ⟨gx, 0, none⟩ = some (.string ty) ∧ wx.cell? ⟨gx, 1, none⟩ = some (.int .i64 tm) ∧ wx.cell? ⟨gx, 2, none⟩ = some (.slice (some ⟨gv, 0, none⟩) n (n + 20)) ∧ wx.cell? ⟨b, o + n3 * 3, none⟩ = some (.string ty) ∧ wx.cell? ⟨b, o + n3 * 3 + 1, none⟩ = some (.int .i64 tm) ∧ wx.cell? ⟨b, o + n3 * 3 + 2, none⟩ = some (.slice q n d))
                      ((refine HS16.out _ ?_; first | assumption | exact Below.refl _ _ | exact (Below.refl _ _).drew | exact held_below (by assumption)))
                      (first | (go_at_call 15; refine (HSR.out _ (held_below (by assumption))).mono ?_; rintro e w17 ⟨rfl, hb17⟩; have hB17 : Below w16.heap.size w16 w17 := held_on (by assumption) hb17) | (go_at_call 12; refine (HSE.out _ (held_below (by assumption))).mono ?_; rintro e w18 ⟨rfl, hb18⟩; have hB18 : Below w16.heap.size w16 w18 := held_on (by assumption) hb18))
                    all_goals
                      go_wp2_with fail
                      go_meet
                      exact ⟨rfl, by first | assumption | exact held_below (by assumption)⟩
                  case rest =>
                  obtain ⟨rfl, hb18⟩ := hcut
                  obtain ⟨w18, hw18⟩ : ∃ x, x = wc := ⟨_, rfl⟩
                  subst hw18
                  have HB18 : Hid (Below wE.heap.size wE w18) := HB16.out.trans (hb18.mono HB16.out.size)
                  have HV18 := Lib.hid (HV16.out.below hb18)
                  have v2 := (hb18.cell (p := ⟨b, o + n3 * 3 + 2, none⟩) zb16).trans w2
                  have zb18 : b < w18.heap.size := Nat.lt_of_lt_of_le zb16 hb18.size
                  clear hb18 w0 w1 w2 y0 y1 y2 zb16 zx16 HB16 HV16 HVQ16 HSR HSE HS16 hee
                  go_wp2
                  go_loopw [26] (fun iv wx => ∃ j : Nat, j ≤ 20 ∧ iv = .int .i64 j ∧ Below w18.heap.size w18 wx) (fun iv _ => 20 - (intOf iv).toNat)
                  case atStart => exact ⟨0, Nat.zero_le _, rfl, Below.refl _ _⟩
                  case round =>
                    obtain ⟨j, hj, rfl, hbr⟩ := hrel
                    have HBJ := Lib.hid hbr
                    have c2 := (hbr.cell (p := ⟨b, o + n3 * 3 + 2, none⟩) zb18).trans v2
                    have HVJ := Lib.hid (HV18.out.below hbr)
                    clear hbr
                    by_cases hlj : j < 20
                    · obtain ⟨e5, he5⟩ : ∃ e5, e5 = n + j := ⟨_, rfl⟩
                      have hmk : wr.cell? ⟨gv, e5 * 4, none⟩ = some (.int .i64 (77 + (j : Int))) := by
                        rw [he5, HN.out]
                        exact valRow_mark HVJ.out hlj
                      have hwe : IntKind.i64.wrap ((n : Int) + (j : Int)) = (e5 : Int) := by
                        have e : (n : Int) + (j : Int) = (e5 : Int) := by rw [he5]; simp
                        rw [e]
                        exact IntWalk.i64_in _ (by omega)
                      have hw77 : IntKind.i64.wrap (77 + (j : Int)) = 77 + (j : Int) := IntWalk.i64_in _ (by omega)
                      have he20 : (e5 : Int) < (n : Int) + 20 := by rw [he5]; omega
                      have he20' : e5 < n + 20 := by omega
                      clear he5
                      go_wp2
                      go_roundw
                      case rel => exact ⟨j + 1, by omega, by go_num, HBJ.out⟩
                      case measure => simp [intOf]; omega
                    · have HBZ : Hid (Below w11.heap.size w11 wr) := HBE.out.trans ((HB18.out.trans (HBJ.out.mono HB18.out.size)).mono HBE.out.size)
                      go_wp2
                      go_roundw
                      case rel => exact ⟨n3 + 1, by omega, by go_num, HBZ.out⟩
                      case measure => simp [intOf]; omega
            · go_wp2
              go_loopw [27] (fun iv wx => ∃ k : Nat, k ≤ m ∧ iv = .int .i64 k ∧ Below wE.heap.size wE wx) (fun iv _ => m - (intOf iv).toNat)
              case atStart => exact ⟨0, Nat.zero_le _, rfl, Below.refl _ _⟩
              case round =>
                obtain ⟨k6, hk6, rfl, hbr⟩ := hrel
                have HB6 := Lib.hid hbr
                have q1 := (hbr.cell (p := ⟨g, 1, none⟩) zgE).trans d1
                by_cases hl6 : k6 < m
                · obtain ⟨an, ak, b6, o6, hat, rfl, e0, e1⟩ := (HA0.out.below (HBWE.out.trans (hbr.mono HBWE.out.size))).nth (k := k6) (by rw [← HMM.out]; exact hl6)
                  obtain ⟨an', ak', b6', o6', hat', eg, e0', e1'⟩ := (HA7.out.below (HB7E.out.trans (hbr.mono HB7E.out.size))).nth (k := k6) (by rw [← HMM.out]; exact hl6)
                  rw [hat] at hat'
                  simp only [Option.some.injEq, Prod.mk.injEq] at hat'
                  obtain ⟨rfl, rfl⟩ := hat'
                  simp only [Option.some.injEq, Addr.mk.injEq] at eg
                  obtain ⟨rfl, rfl, _⟩ := eg
                  simp only [Nat.zero_add] at e0' e1'
                  have hk20 : (k6 : Int) < (m : Int) + 20 := by omega
                  clear hat hbr
                  go_wp2
                  go_quiet (fail)
                  go_wp2
                  go_roundw
                  case rel => exact ⟨k6 + 1, by omega, by go_num, by first | exact HB6.out | exact below_drewN HB6.out _⟩
                  case measure => simp [intOf]; omega
                · clear hbr
                  go_wp2
                  go_loopw [28] (fun iv wx => ∃ k : Nat, k ≤ 20 ∧ iv = .int .i64 k ∧ Below wE.heap.size wE wx) (fun iv _ => 20 - (intOf iv).toNat)
                  case atStart => exact ⟨0, Nat.zero_le _, rfl, HB6.out⟩
                  case round =>
                    obtain ⟨k7, hk7, rfl, hbr⟩ := hrel
                    obtain ⟨wG, hwG⟩ : ∃ x, x = wr := ⟨_, rfl⟩
                    subst hwG
                    have HB7 := Lib.hid hbr
                    by_cases hl7 : k7 < 20
                    · obtain ⟨e7, he7⟩ : ∃ e7, e7 = m + k7 := ⟨_, rfl⟩
                      obtain ⟨M, hM⟩ : ∃ M : ByteArray, M = ⟨(wd k7).toArray⟩ := ⟨_, rfl⟩
                      have t1 := (hbr.cell (p := ⟨g, 1, none⟩) zgE).trans d1
                      have hat : (cells2 (l ++ mks 20))[e7 * 2]? = some (.string M) := by
                        have hi2 : e7 < (l ++ mks 20).length := by
                          have h9 := HMM.out
                          rw [List.length_append, mks_len]
                          omega
                        rw [(cells2_at hi2).1]
                        have e2 : (l ++ mks 20)[e7]'hi2 = (M, 0) := by
                          have h7 := mks_at (k := 20) hl7
                          rw [List.getElem_append_right (by rw [he7, ← HMM.out]; omega)]
                          have h8 := (List.getElem?_eq_some_iff.1 h7).2
                          rw [hM, ← h8]
                          congr 1
                          rw [he7, ← HMM.out]
                          omega
                        rw [e2]
                      have h8 := World.ownsRow.cells (g := ga) HO7.out rfl _ _ hat
                      rw [Addr.add_lit, Nat.zero_add] at h8
                      have zga := lt_of_cell h8
                      have q8 := ((HB7E.out.trans (hbr.mono HB7E.out.size)).cell (p := ⟨ga, e7 * 2, none⟩) zga).trans h8
                      have hwe : IntKind.i64.wrap ((m : Int) + (k7 : Int)) = (e7 : Int) := by
                        have e : (m : Int) + (k7 : Int) = (e7 : Int) := by rw [he7]; simp
                        rw [e]
                        exact IntWalk.i64_in _ (by omega)
                      have he20 : (e7 : Int) < (m : Int) + 20 := by rw [he7]; omega
                      have zg7w : g < wG.heap.size := Nat.lt_of_lt_of_le zgE hbr.size
                      have zgaw : ga < wG.heap.size := lt_of_cell q8
                      have HW : Hid (∀ wx, Calls Tryz.prog 17 #[.int .i64 k7] wx fun e w' => e = .returned (.string M) ∧ Below wx.heap.size wx w') := fun wx => by rw [hM]; exact word_any k7 hl7 wx
                      have HS7 : Hid (∀ wx, Below wG.heap.size wG wx → Below wG.heap.size wG wx ∧ wx.cell? ⟨g, 1, none⟩ = some (.slice p m c) ∧ wx.cell? ⟨ga, e7 * 2, none⟩ = some (.string M)) := fun wx hx => ⟨hx, (hx.cell (p := ⟨g, 1, none⟩) zg7w).trans t1, (hx.cell (p := ⟨ga, e7 * 2, none⟩) zgaw).trans q8⟩
                      clear hbr hat h8 zga he7 hM
                      go_wp2
                      go_region_held3 (fun wx => Below wG.heap.size wG wx ∧ wx.cell? ⟨g, 1, none⟩ = some (.slice p m c) ∧ wx.cell? ⟨ga, e7 * 2, none⟩ = some (.string M))
                        ((refine HS7.out _ ?_; first | assumption | exact Below.refl _ _ | exact (Below.refl _ _).drew | exact held_below (by assumption)))
                        (first | (go_at_call 17; refine (HW.out _).mono ?_; rintro e w2 ⟨rfl, hb2⟩; have hB8 : Below wG.heap.size wG w2 := held_on (by assumption) hb2))
                      all_goals
                        have HB8 : Hid (Below wE.heap.size wE w2) := HB7.out.trans (hB8.mono HB7.out.size)
                        go_wp2
                        go_roundw
                        case rel => exact ⟨k7 + 1, by omega, by go_num, HB8.out⟩
                        case measure => simp [intOf]; omega
                    · have HBZ : Hid (Below W.heap.size W wG) := HBWE.out.trans (hbr.mono HBWE.out.size)
                      clear hbr
                      go_wp2
                      go_ret
                      exact ⟨rfl, HBZ.out⟩
end Go.Proofs.YtkficmbkoinjjaaGreatDoor.lawEvents
