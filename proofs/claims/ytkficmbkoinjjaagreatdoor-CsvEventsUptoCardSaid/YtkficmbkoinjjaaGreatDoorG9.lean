/- The document's own answer: a row as an event. -/
import Derived.Test.YtkficmbkoinjjaaGreatDoorE6
import Derived.Test.YtkficmbkoinjjaaGreatDoorG8
namespace Go.Proofs.YtkficmbkoinjjaaGreatDoor
open Go Go.RowKit
open V
set_option maxHeartbeats 4000000
set_option linter.unusedVariables false
set_option linter.unusedSimpArgs false
set_option maxRecDepth 100000 in
theorem refEvent_any (nm : ByteArray) (p : Option Addr) (l : List (ByteArray × Int)) (c : Nat) (q : Option Addr) (C : List Cell) (d : Nat) (w : World) (hA : AtRow w p l) (hC : CellsIn w q C) (hl : l.length ≤ 100000000) (hm : C.length ≤ 100000000) :
    Calls Tryz.prog 19 #[.agg #[.string nm, .slice p l.length c], .slice q C.length d] w (EventIs w nm (kdL l) C) := by
  obtain ⟨i0, hi, hz0, hz1, hz2⟩ := info_parts infoVal
  obtain ⟨n, hnn⟩ : ∃ n, n = l.length := ⟨_, rfl⟩
  obtain ⟨m, hmm⟩ : ∃ m, m = C.length := ⟨_, rfl⟩
  have HN := Lib.hid hnn
  have HM := Lib.hid hmm
  have HNE : Hid (m ≠ n + 1 → ∀ tm vl, Fits (kdL l) tm vl → rowC tm vl ≠ C) := fun h tm vl hf e => h (by
    have h1 := congrArg List.length e
    have h2 := hf.len
    rw [rowC_len] at h1
    have h3 : (kdL l).length = l.length := by simp [kdL]
    omega)
  obtain ⟨w1, hw1⟩ : ∃ x, x = (w.alloc (Obj.cells #[.string nm, .slice p l.length c] 25)).alloc (Obj.cells #[.string ⟨#[]⟩, .int .i64 0, .slice none 0 0] 41) := ⟨_, rfl⟩
  have hb1 : Below w.heap.size w w1 := by rw [hw1]; exact ((Below.refl _ _).alloc (Nat.le_refl _) _).alloc (by simp) _
  have a0 : w1.cell? ⟨w.heap.size, 0, none⟩ = some (.string nm) := by rw [hw1]; simp [go_sem]
  have a1 : w1.cell? ⟨w.heap.size, 1, none⟩ = some (.slice p n c) := by rw [hw1, hnn]; simp [go_sem]
  have T1 : Hid (Three w1 (w.heap.size + 1) ⟨#[]⟩ 0 (.slice none 0 0)) := by
    have := Three.new (w.alloc (Obj.cells #[.string nm, .slice p l.length c] 25)) ⟨#[]⟩ 0 none 0 0
    simp only [World.size_alloc] at this
    rw [hw1]
    exact this
  have hz1' : w.heap.size < w1.heap.size := by rw [hw1]; simp; omega
  have HA0 := Lib.hid hA
  have HC0 := Lib.hid hC
  have HB1 := Lib.hid hb1
  rw [← hnn] at hw1 hl ⊢
  rw [← hmm] at hm ⊢
  have HW2 := Lib.hid hw1
  obtain ⟨g, hg⟩ : ∃ g, g = w.heap.size := ⟨_, rfl⟩
  have HG := Lib.hid hg
  rw [← hg] at a0 a1 T1 hz1'
  have KG : Hid (w.heap.size ≤ g + 1) := by show _ ≤ _; omega
  clear hA hC hnn hmm hb1 hw1
  go_enter Tryz.func19, Tryz.ntmps19
  go_upto_region 1 with fail
  rw [← HW2.out, ← HG.out]
  clear hg
  by_cases hmn : m = n + 1
  case neg =>
    have dm : ((m : Int) != (n : Int) + 1) = true := by simp; omega
    have HH := Lib.hid (HNE.out hmn)
    have HXE : Hid (EvE (kdL l) C 22) := .inl ⟨by rw [← HM.out]; simpa [kdL, ← HN.out] using hmn, rfl⟩
    have TT := Lib.hid (T1.out.all ⟨#[]⟩ 0 (.slice none 0 0))
    obtain ⟨r0, r1, r2, z0, z1, z2⟩ := T1.out
    clear hmn
    go_wp2
    exact bodyPost_ret (v := .tuple #[.agg #[.string ⟨#[]⟩, .int .i64 0, .slice none 0 0], .int .i64 22]) (by simp [results, Tryz.results19, go_sem, r0, r1, r2]) rfl (EventIs.bad (below_three HB1.out KG.out _ _ _) (by decide) HH.out HXE.out)
  case pos =>
  subst hmn
  have dm : (((n + 1 : Nat) : Int) != (n : Int) + 1) = false := by simp
  obtain ⟨c0, b, o, hc0, rfl, x0⟩ := (HC0.out.below HB1.out).nth (k := 0) (by rw [← HM.out]; omega)
  rw [Nat.add_zero] at x0
  have zb := lt_of_cell x0
  have HC00 := Lib.hid hc0
  have HFST : Hid (∀ tm vl, Fits (kdL l) tm vl → rowC tm vl = C → cellV (numV tm) = c0) := fun tm vl _ e => by
    have h1 := HC00.out
    rw [← e] at h1
    simpa [rowC] using h1
  have hrd := read_r ⟨c0.toArray⟩ w1
  clear hc0 HNE
  go_wp2_with fail
  refine hrd.mono ?_
  rintro e w2 ⟨K, N, S, T, EE, rfl, hb2, hrc⟩
  have HRC := Lib.hid (rc_read (k := 1) (c := ⟨c0.toArray⟩) (by omega) (by omega) hrc)
  obtain ⟨g6, hg6⟩ : ∃ g6, g6 = w2.heap.size := ⟨_, rfl⟩
  obtain ⟨w4, hw4⟩ : ∃ x, x = w2.alloc (Obj.cells #[.int .i64 K, .int .i64 N, .string S, .bool T] 57) := ⟨_, rfl⟩
  have hb4 : Below w1.heap.size w1 w4 := by rw [hw4]; exact hb2.alloc hb2.size _
  have HB4 : Hid (Below w.heap.size w w4) := HB1.out.trans (hb4.mono HB1.out.size)
  have T4 := Lib.hid (T1.out.below (hb4.mono (Nat.le_refl _)))
  have y0 : w4.cell? ⟨g6, 0, none⟩ = some (.int .i64 K) := by rw [hw4, hg6]; simp [go_sem]
  have y1 : w4.cell? ⟨g6, 1, none⟩ = some (.int .i64 N) := by rw [hw4, hg6]; simp [go_sem]
  have b0 := (hb4.cell (p := ⟨g, 0, none⟩) hz1').trans a0
  have b1 := (hb4.cell (p := ⟨g, 1, none⟩) hz1').trans a1
  have zg3 : g < w4.heap.size := Nat.lt_of_lt_of_le hz1' hb4.size
  have zg6 : g6 < w4.heap.size := by rw [hw4, hg6]; simp
  have hcase : (EE = 0 ∧ valid K N S T = true) ∨ (EE = 12 ∧ K = 0) := by
    rcases hrc with ⟨h1, h2, _⟩ | ⟨h1, h2, _⟩
    · exact .inl ⟨h1, h2⟩
    · exact .inr ⟨h1, h2⟩
  have HBAD : Hid (¬ (K = 1 ∧ valid K N S T = true ∧ TmOk N) → (∀ tm vl, Fits (kdL l) tm vl → rowC tm vl ≠ C) ∧ EvE (kdL l) C 23) := fun hno => by
    have hx : ∀ tm, TmOk tm → c0 ≠ cellV (numV tm) := fun tm ht e => by
      by_cases h1 : K = 1 ∧ valid K N S T = true
      · obtain ⟨h2, h3⟩ := HRC.out.1 h1
        obtain ⟨rfl, hv1⟩ := h1
        have e1 := valid_1' hv1
        try simp only at e1
        rw [e1.1, e1.2] at h2 h3
        have h4 := cellV_inj (numV_ok ht.i64) h2 rfl (e.symm.trans h3.symm)
        have h5 : tm = N := (V4.mk.inj h4).2.1
        exact hno ⟨rfl, hv1, h5 ▸ ht⟩
      · exact HRC.out.2 h1 (numV tm) (numV_ok ht.i64) rfl (by simpa using e)
    refine ⟨fun tm vl hf e => hx tm hf.1 (HFST.out tm vl hf e).symm, .inr (.inl ⟨by rw [← HM.out]; simp [kdL, ← HN.out], fun tm ht e => ?_, rfl⟩)⟩
    rw [HC00.out] at e
    exact hx tm ht (Option.some.inj e)
  clear a0 a1 hz1' hrd hrc zb x0 hb4 hb2
  go_upto_region 4 with fail
  rw [← hw4, ← hg6]
  clear hw4 hg6
  obtain ⟨r0, r1, r2, z0, z1, z2⟩ := T4.out
  by_cases hgood : K = 1 ∧ valid K N S T = true ∧ TmOk N
  case neg =>
    obtain ⟨hh1, hh2⟩ := HBAD.out hgood
    have HH := Lib.hid hh1
    have HXE := Lib.hid hh2
    clear hh1 hh2
    go_cut [45] from 29 to 45 (fun s45 wx => s45 = .bool true ∧ wx = w4)
    case first =>
      rcases hcase with ⟨rfl, hvl⟩ | ⟨rfl, rfl⟩
      · by_cases hK : K = 1
        · subst hK
          by_cases h0 : N < 0
          · have d0 : decide (N < 0) = true := by simpa using h0
            clear hgood hvl h0
            go_wp2_with fail
            go_meet
            exact ⟨rfl, rfl⟩
          · have h1 : 4611686018427387904 < N := by
              have : ¬ TmOk N := fun h => hgood ⟨rfl, hvl, h⟩
              unfold TmOk at this
              omega
            have d0 : decide (N < 0) = false := by simpa using h0
            have d1 : decide ((4611686018427387904 : Int) < N) = true := by simpa using h1
            clear hgood hvl h0 h1
            go_wp2_with fail
            go_meet
            exact ⟨rfl, rfl⟩
        · have dK : (K != 1) = true := by simpa using hK
          clear hgood hvl hK
          go_wp2_with fail
          go_meet
          exact ⟨rfl, rfl⟩
      · clear hgood
        go_wp2_with fail
        go_meet
        exact ⟨rfl, rfl⟩
    case rest =>
    obtain ⟨rfl, rfl⟩ := hcut
    clear hcase hgood
    go_wp2
    exact bodyPost_ret (v := .tuple #[.agg #[.string ⟨#[]⟩, .int .i64 0, .slice none 0 0], .int .i64 23]) (by simp [results, Tryz.results19, go_sem, r0, r1, r2]) rfl (EventIs.bad (below_three HB4.out KG.out _ _ _) (by decide) HH.out HXE.out)
  case pos =>
  obtain ⟨rfl, hvl, htmo⟩ := hgood
  have HR3 : Hid (cellV (numV N) = c0 ∧ I64 N) := by
    obtain ⟨h2, h3⟩ := HRC.out.1 ⟨rfl, hvl⟩
    have e1 := valid_1' hvl
    try simp only at e1
    rw [e1.1, e1.2] at h2 h3
    exact ⟨by unfold numV; simpa using h3, h2.2⟩
  have HTM0 := Lib.hid htmo
  obtain rfl : EE = 0 := by
    rcases hcase with ⟨h, _⟩ | ⟨_, h⟩
    · exact h
    · cases h
  have d0 : decide (N < 0) = false := by have := htmo.1; simp; omega
  have d1 : decide ((4611686018427387904 : Int) < N) = false := by have := htmo.2; simp; omega
  clear hcase hvl htmo HBAD HRC r0 r1 r2 z0 z1 z2
  have HLEN : Hid (C.length = (kdL l).length + 1) := by show _ = _; rw [← HM.out]; simp [kdL, ← HN.out]
  have HTM : Hid (TmOk N) := HTM0.out
  have HZ4 : Hid (w.heap.size ≤ w4.heap.size) := HB4.out.size
  go_wp2
  go_loopw [8] (fun iv wr => ∃ k : Nat, k ≤ n ∧ iv = .int .i64 k ∧ Below w4.heap.size w4 wr ∧ ∀ j x, j < k → (kdL l)[j]? = some x → 1 ≤ x ∧ x ≤ 3) (fun iv _ => n - (intOf iv).toNat)
  case atStart => exact ⟨0, Nat.zero_le _, rfl, by repeat (first | exact Below.refl _ _ | apply Below.drew), fun j x hj => absurd hj (Nat.not_lt_zero _)⟩
  case round =>
    obtain ⟨k, hk, rfl, hbr, hkd⟩ := hrel
    have HBR := Lib.hid hbr
    have HKD := Lib.hid hkd
    have HBW : Hid (Below w.heap.size w wr) := HB4.out.trans (hbr.mono HB4.out.size)
    have c1r := (hbr.cell (p := ⟨g, 1, none⟩) zg3).trans b1
    by_cases hlt : k < n
    · obtain ⟨an, ak, b', o', hak, rfl, e0, e1⟩ := (HA0.out.below HBW.out).nth (k := k) (by rw [← HN.out]; exact hlt)
      have HAK := Lib.hid (kdL_at hak)
      have T5 := Lib.hid (T4.out.below hbr)
      clear hbr hkd hak
      by_cases hin : 1 ≤ ak ∧ ak ≤ 3
      · have dk : (decide (1 ≤ ak) && decide (ak ≤ 3)) = true := by simp [hin.1, hin.2]
        have HIN := Lib.hid hin
        clear hin
        go_wp2_with fail
        refine (known_r ak wr).mono ?_
        rintro e w6 ⟨rfl, hw6⟩
        subst hw6
        rw [dk]
        go_wp2
        go_roundw
        case rel =>
          refine ⟨k + 1, by omega, by go_num, HBR.out, fun j x hj hx => ?_⟩
          by_cases hjk : j = k
          · subst hjk; have h := HAK.out.symm.trans hx; simp at h; have := HIN.out; omega
          · exact HKD.out j x (by omega) hx
        case measure => simp [intOf]; omega
      · have hout : ak < 1 ∨ 3 < ak := by omega
        have dk : (decide (1 ≤ ak) && decide (ak ≤ 3)) = false := by
          rcases hout with h | h
          · have : decide (1 ≤ ak) = false := by simp; omega
            rw [this]; rfl
          · have : decide (ak ≤ 3) = false := by simp; omega
            rw [this]; simp
        have HH : Hid (∀ tm vl, Fits (kdL l) tm vl → rowC tm vl ≠ C) := fun tm vl hf e => by
          have h1 := HAK.out
          rw [← hf.2.1, List.getElem?_map] at h1
          obtain ⟨v, hv, hvk⟩ := Option.map_eq_some_iff.1 h1
          have := (hf.2.2 v (List.mem_of_getElem? hv)).kind
          omega
        have HXE : Hid (EvE (kdL l) C 10) := .inr (.inr (.inl ⟨HLEN.out, ⟨N, HTM.out, by rw [HC00.out, HR3.out.1]⟩, ⟨k, ak, HAK.out, hout⟩, rfl⟩))
        clear hin hout
        go_wp2_with fail
        refine (known_r ak wr).mono ?_
        rintro e w6 ⟨rfl, hw6⟩
        subst hw6
        rw [dk]
        obtain ⟨r0, r1, r2, z0, z1, z2⟩ := T5.out
        go_wp2
        exact bodyPost_ret (v := .tuple #[.agg #[.string ⟨#[]⟩, .int .i64 0, .slice none 0 0], .int .i64 10]) (by simp [results, Tryz.results19, go_sem, r0, r1, r2]) rfl (EventIs.bad (below_three HBW.out KG.out _ _ _) (by decide) HH.out HXE.out)
    · have hkn : n = k := by omega
      subst hkn
      have c0w := (hbr.cell (p := ⟨g, 0, none⟩) zg3).trans b0
      have c1w := (hbr.cell (p := ⟨g, 1, none⟩) zg3).trans b1
      have c6w := (hbr.cell (p := ⟨g6, 1, none⟩) zg6).trans y1
      have T5 := Lib.hid (T4.out.below hbr)
      have zgr : g < wr.heap.size := Nat.lt_of_lt_of_le zg3 hbr.size
      have zg1r := T5.out.lt
      have HZR : Hid (w.heap.size ≤ wr.heap.size) := HBW.out.size
      clear hbr hkd b0 b1 y0 y1 zg3 zg6 hlt hk c1r
      go_upto_region 13 with fail
      have TE := Three.new wr nm N none 0 0
      obtain ⟨w6, hw6⟩ : ∃ x, x = wr.alloc (Obj.cells #[.string nm, .int .i64 N, .slice none 0 0] 41) := ⟨_, rfl⟩
      obtain ⟨E, hE⟩ : ∃ E, E = wr.heap.size := ⟨_, rfl⟩
      have hal : Below wr.heap.size wr w6 := by rw [hw6]; exact (Below.refl _ _).alloc (Nat.le_refl _) _
      rw [← hw6, ← hE] at TE
      have HTE := Lib.hid TE
      have HAL := Lib.hid hal
      have HEE := Lib.hid hE
      have c1v := (hal.cell (p := ⟨g, 1, none⟩) zgr).trans c1w
      have HZ6 : Hid (wr.heap.size ≤ w6.heap.size) := hal.size
      rw [← hw6, ← hE]
      clear TE hw6 hal hE c0w c6w c1v
      obtain ⟨wq, ewq⟩ : ∃ x, x = wr := ⟨_, rfl⟩
      subst ewq
      go_wp2
      go_loopw [11] (fun iv wx => ∃ (k : Nat) (done : List V4) (vp : Option Addr) (vc : Nat), k ≤ n ∧ iv = .int .i64 k ∧ done.length = k ∧ Below wq.heap.size wq wx ∧ Three wx E nm N (.slice vp k vc) ∧ wx.ownsRow (E + 1) 57 4 (.slice vp k vc) k (cells4 done) ∧ done.map (·.k) = (kdL l).take k ∧ (∀ v ∈ done, Ok4 v) ∧ rowC N done = C.take (k + 1)) (fun iv _ => n - (intOf iv).toNat)
      case atStart => 
        refine ⟨0, [], none, 0, Nat.zero_le _, rfl, rfl, HAL.out, HTE.out, World.ownsRow_nil _ _ _ _, by simp, by simp, ?_⟩
        have h1 := HC00.out
        cases C with
        | nil => cases h1
        | cons x t => simp at h1; subst h1; simp [rowC, HR3.out.1]
      case round =>
        clear T1
        obtain ⟨k, done, vp, vc, hk, rfl, hdl, hbx, htx, hox, hmp, hokd, hrw⟩ := hrel
        have htxl := htx.lt
        have c1x := (hbx.cell (p := ⟨g, 1, none⟩) zgr).trans c1w
        have HBX := Lib.hid hbx
        have HTX := Lib.hid htx
        have HOX := Lib.hid hox
        have HDN := Lib.hid (And.intro hdl (And.intro hmp (And.intro hokd hrw)))
        have HBW2 : Hid (Below w.heap.size w wr) := HBW.out.trans (hbx.mono HZR.out)
        have T7 := Lib.hid (T5.out.below hbx)
        have HZX : Hid (wq.heap.size ≤ wr.heap.size ∧ w.heap.size ≤ wr.heap.size) := ⟨hbx.size, HBW2.out.size⟩
        by_cases hlt : k < n
        · obtain ⟨an, ak, b', o', hak, rfl, e0, e1⟩ := (HA0.out.below HBW2.out).nth (k := k) (by rw [← HN.out]; exact hlt)
          obtain ⟨ck, b2, o2, hck, hbb, x1⟩ := (HC0.out.below HBW2.out).nth (k := k + 1) (by rw [← HM.out]; omega)
          simp only [Option.some.injEq, Addr.mk.injEq, and_true] at hbb
          obtain ⟨rfl, rfl⟩ := hbb
          have HAK := Lib.hid (kdL_at hak)
          have HCK := Lib.hid hck
          have hrange := HKD.out k ak hlt (kdL_at hak)
          have y2 := lt_of_cell e0
          have y3 := lt_of_cell x1
          have HRD7 : Hid (∀ wy, Below wr.heap.size wr wy → Calls Tryz.prog 38 #[.int .i64 ak, .string ⟨ck.toArray⟩] wy (ReadC wy ak ck)) := fun wy hy => by
            have := cell_r ak hrange.1 hrange.2 ⟨ck.toArray⟩ wy
            simpa using this
          clear hak hck hdl hbx hox hmp hokd hrw htx hrange
          go_upto_region 16 with fail
          obtain ⟨w7, hw7⟩ : ∃ x, x = wr := ⟨_, rfl⟩
          subst hw7
          have k0 := e1
          have k1 := x1
          have zb7 := lt_of_cell k1
          have zg7 := lt_of_cell k0
          have zg8 := lt_of_cell c1x
          have nb7 : ¬ (b = w7.heap.size) := by omega
          have ng7 : ¬ (b' = w7.heap.size) := by omega
          have nh7 : ¬ (g = w7.heap.size) := by omega
          have nb8 : ¬ (w7.heap.size = b) := by omega
          have ng8 : ¬ (w7.heap.size = b') := by omega
          have nh8 : ¬ (w7.heap.size = g) := by omega
          have kw : IntKind.i64.wrap ((k : Int) + 1) = (k : Int) + 1 := IntWalk.i64_in _ (by omega)
          have kn : ((k : Int) + 1).toNat = k + 1 := by omega
          have kk : (k : Int) < (n : Int) := by omega
          have kk0 : (0 : Int) ≤ (k : Int) + 1 := by omega
          have kk1 : (k : Int) + 1 < (n : Int) + 1 := by omega
          clear e0 e1 x1 y2 y3
          go_cut [12, 13] from 76 to 90 (fun s15 s16 wx => ∃ (g15 : Nat) (K2 N2 : Int) (S2 : ByteArray) (T2 ok : Bool), s15 = .pointer (some ⟨g15, 0, none⟩) ∧ s16 = .bool ok ∧ Below w7.heap.size w7 wx ∧ wx.cell? ⟨g15, 0, none⟩ = some (.int .i64 K2) ∧ wx.cell? ⟨g15, 1, none⟩ = some (.int .i64 N2) ∧ wx.cell? ⟨g15, 2, none⟩ = some (.string S2) ∧ wx.cell? ⟨g15, 3, none⟩ = some (.bool T2) ∧
              ((ok = true ∧ K2 = ak ∧ Ok4 ⟨K2, N2, S2, T2⟩ ∧ cellV ⟨K2, N2, S2, T2⟩ = ck) ∨ (ok = false ∧ ∀ v, Ok4 v → v.k = ak → ck ≠ cellV v)))
          case first =>
            go_region_law (first | (go_simp; go_at_call 38; refine (HRD7.out _ (by repeat (first | assumption | exact Below.refl _ _ | apply Below.drew | refine Below.alloc ?_ (by first | exact Nat.le_refl _ | simp) _))).mono ?_; rintro e w8 ⟨K2, N2, S2, T2, ok, rfl, hb8, hrc⟩; obtain ⟨hc8, hf8⟩ := bcell hb8))
            all_goals
              have hsz := hb8.size
              simp at hsz
              go_wp2_with fail
              go_meet
              clear HBX HTX HOX HDN HBW2 T7 HAK HCK HA0 HC0 HB1 HB4 T4 T5 HFST HRD7 HKD
              try (refine ⟨w8.heap.size, K2, N2, S2, T2, ok, rfl, rfl, ((Below.refl _ _).drew.trans hb8).alloc hsz _, ?_, ?_, ?_, ?_, hrc⟩ <;> simp [go_sem])
            all_goals
              have q0 := hc8 w7.heap.size 0 (by simp)
              have q1 := hc8 w7.heap.size 1 (by simp)
              have q2 := hc8 w7.heap.size 2 (by simp)
              have q3 := hc8 w7.heap.size 3 (by simp)
              simp [go_sem] at q0 q1 q2 q3
              refine ⟨w7.heap.size, K2, N2, S2, T2, ok, rfl, rfl, ?_, ?_, ?_, ?_, ?_, hrc⟩
              · have hb7 : Below w7.heap.size w7 w8 := by
                  refine Below.trans ?_ (hb8.mono (by simp))
                  repeat (first | exact Below.refl _ _ | apply Below.drew | refine Below.alloc ?_ (by first | exact Nat.le_refl _ | simp) _)
                exact (((hb7.setCell (p := ⟨w7.heap.size, 0, none⟩) (Nat.le_refl _) _).setCell (p := ⟨w7.heap.size, 1, none⟩) (Nat.le_refl _) _).setCell (p := ⟨w7.heap.size, 2, none⟩) (Nat.le_refl _) _).setCell (p := ⟨w7.heap.size, 3, none⟩) (Nat.le_refl _) _
              all_goals simp [go_sem, q0, q1, q2, q3]
          case rest =>
          obtain ⟨g15, K2, N2, S2, T2, ok, rfl, rfl, hb9, v0, v1, v2, v3, hrc⟩ := hcut
          have hb9r : Below w7.heap.size w7 wc := hb9
          have HRC2 := Lib.hid hrc
          have HB9 : Hid (Below wq.heap.size wq wc) := HBX.out.trans (hb9r.mono HZX.out.1)
          have HB9w : Hid (Below w.heap.size w wc) := HBW2.out.trans (hb9r.mono HZX.out.2)
          have T9 := Lib.hid (T7.out.below hb9r)
          have TE9 := Lib.hid (HTX.out.below hb9r)
          have HO9 : Hid (wc.ownsRow (E + 1) 57 4 (.slice vp k vc) k (cells4 done)) := own_kept_any HOX.out hb9r
          have HZ9 : Hid (wq.heap.size ≤ wc.heap.size) := HB9.out.size
          obtain ⟨wd, ewd⟩ : ∃ x, x = wc := ⟨_, rfl⟩
          subst ewd
          clear hb9 hb9r hrc k0 k1 zb7 zg7 zg8 nb7 ng7 nh7 nb8 ng8 nh8 kw kn kk kk0 kk1 HRD7 HBX HTX HOX T7 c1x
          cases ok
          case false =>
            have HH : Hid (∀ tm vl, Fits (kdL l) tm vl → rowC tm vl ≠ C) := fun tm vl hf e => by
              rcases HRC2.out with ⟨h, _⟩ | ⟨_, h⟩
              · cases h
              · have h1 := HCK.out
                rw [← e, rowC, List.getElem?_cons_succ, List.getElem?_map] at h1
                obtain ⟨v, hv, hvc⟩ := Option.map_eq_some_iff.1 h1
                have h2 := hf.at hv
                rw [HAK.out] at h2
                exact h v h2.1 (Option.some.inj h2.2).symm hvc.symm
            have HXE : Hid (EvE (kdL l) C 12) := .inr (.inr (.inr ⟨HLEN.out, ⟨N, HTM.out, by rw [HC00.out, HR3.out.1]⟩, fun j x hx => HKD.out j x (by have := (List.getElem?_eq_some_iff.1 hx).1; simp only [kdL, List.length_map, ← show n = _ from HN.out] at this; exact this) hx, rfl⟩))
            obtain ⟨r0, r1, r2, z0, z1, z2⟩ := T9.out
            go_wp2
            exact bodyPost_ret (v := .tuple #[.agg #[.string ⟨#[]⟩, .int .i64 0, .slice none 0 0], .int .i64 12]) (by simp [results, Tryz.results19, go_sem, r0, r1, r2]) rfl (EventIs.bad (below_three HB9w.out KG.out _ _ _) (by decide) HH.out HXE.out)
          case true =>
          have HOK : Hid (K2 = ak ∧ Ok4 ⟨K2, N2, S2, T2⟩ ∧ cellV ⟨K2, N2, S2, T2⟩ = ck) := by
            rcases HRC2.out with ⟨_, h⟩ | ⟨h, _⟩
            · exact h
            · cases h
          have hm1 : k + 1 ≤ maxLen := by unfold maxLen; omega
          have hm2 : (k + 1) * 40 ≤ 140737488355328 := by omega
          have HE1 : Hid (∀ o : Obj, E + 1 ≤ (wd.alloc o).heap.size) := fun o => (by have := TE9.out.lt; simp; omega)
          obtain ⟨r0, r1, r2, z0, z1, z2⟩ := TE9.out
          clear HRC2
          go_wp2_with (at_builtin; refine wpList_append_lies _ rfl _ _ 39 rfl (E + 1) 57 i0 (.agg #[.int .i64 0, .int .i64 0, .string ⟨#[]⟩, .bool false]) 4 40 Tryz.underlying39 hi hz0 hz1 hz2 rfl (by decide) (.slice vp k vc) k (cells4 done) rfl (World.ownsRow.alloc HO9.out _) ⟨wd.heap.size, 0, none⟩ 1 1 [.int .i64 K2, .int .i64 N2, .string S2, .bool T2] rfl rfl (lit_cells wd _ _) (ones4 _ _ _ _) (by decide) hm1 hm2 (HE1.out _) (wd.heap.size + 1) (by simp) ?_)
          intro ga capa wa owna hgra hwha hlta
          have hal : Below wd.heap.size wd (wd.alloc (.cells #[.int .i64 K2, .int .i64 N2, .string S2, .bool T2] 57)) := (Below.refl _ _).alloc (Nat.le_refl _) _
          have hKE : wq.heap.size ≤ E := by have := HEE.out; omega
          have HBa : Hid (Below wq.heap.size wq wa) := (HB9.out.trans (hal.mono HZ9.out)).grown hgra (by have := HZ9.out; simp; omega) (fun x hx => by
            have := (World.ownsRow.lt HO9.out x hx).1
            omega)
          have TEa := Lib.hid ((TE9.out.below hal).grown hgra (own_not HO9.out (Nat.lt_succ_self E)))
          have OWa := Lib.hid owna
          have HD2 : Hid ((done ++ [(⟨K2, N2, S2, T2⟩ : V4)]).length = k + 1 ∧ (done ++ [(⟨K2, N2, S2, T2⟩ : V4)]).map (·.k) = (kdL l).take (k + 1) ∧ (∀ v ∈ done ++ [(⟨K2, N2, S2, T2⟩ : V4)], Ok4 v) ∧ rowC N (done ++ [(⟨K2, N2, S2, T2⟩ : V4)]) = C.take (k + 1 + 1)) := by
            obtain ⟨hdl, hmp, hokd, hrw⟩ := HDN.out
            obtain ⟨hk2, hok2, hc2⟩ := HOK.out
            obtain ⟨h1, h2⟩ := List.getElem?_eq_some_iff.1 HAK.out
            obtain ⟨h3, h4⟩ := List.getElem?_eq_some_iff.1 HCK.out
            refine ⟨by simp [hdl], ?_, fun v hv => ?_, ?_⟩
            · rw [take_snoc' h1, List.map_append, hmp, h2, hk2]
              rfl
            · rcases List.mem_append.1 hv with h | h
              · exact hokd v h
              · simp only [List.mem_singleton] at h
                rw [h]
                exact hok2
            · rw [take_snoc' h3, ← hrw, h4, ← hc2]
              unfold rowC
              rw [List.map_append]
              rfl
          have HKE := Lib.hid hKE
          obtain ⟨q0, q1, q2, f0, f1, f2⟩ := TEa.out
          clear owna hgra hwha hlta hal hKE r0 r1 r2 z0 z1 z2 v0 v1 v2 v3 hm1 hm2
          go_wp2
          go_roundw
          case rel =>
            refine ⟨k + 1, _, some ⟨ga, 0, none⟩, capa, by omega, by go_num, HD2.out.1, HBa.out.setCell (p := ⟨E, 2, none⟩) HKE.out _, TEa.out.vs _, ?_, HD2.out.2.1, HD2.out.2.2.1, HD2.out.2.2.2⟩
            rw [cells4_snoc]
            exact ownsRow_setCell_below OWa.out (a := ⟨E, 2, none⟩) (Nat.lt_succ_self E) _
          case measure => simp [intOf]; omega
        · have hkn2 : k = n := by omega
          subst hkn2
          obtain ⟨r0, r1, r2, z0, z1, z2⟩ := T7.out
          obtain ⟨q0, q1, q2, f0, f1, f2⟩ := HTX.out
          obtain ⟨hdl', hmp', hokd', hrw'⟩ := HDN.out
          have hvr := (own_valRow HOX.out).2
          have HH : Hid (EventIs w nm (kdL l) C (.returned (.tuple #[.agg #[.string nm, .int .i64 N, .slice vp k vc], .int .i64 0])) (((wr.setCell ⟨g + 1, 0, none⟩ (.string nm)).setCell ⟨g + 1, 1, none⟩ (.int .i64 N)).setCell ⟨g + 1, 2, none⟩ (.slice vp k vc))) := by
            refine ⟨below_three HBW2.out KG.out _ _ _, .inl ⟨N, done, vp, vc, by rw [hdl'], ?_, ?_, ⟨HTM.out, ?_, hokd'⟩, ?_⟩⟩
            · have hge : g + 1 < E + 1 := by have := HEE.out; omega
              exact (own_valRow (ownsRow_setCell_below (ownsRow_setCell_below (ownsRow_setCell_below HOX.out (a := ⟨g + 1, 0, none⟩) hge _) (a := ⟨g + 1, 1, none⟩) hge _) (a := ⟨g + 1, 2, none⟩) hge _)).2
            · intro a ha
              subst ha
              rcases HOX.out.2 with ⟨e, _⟩ | ⟨gx, _, _, e, hge, _⟩
              · simp only [Value.slice.injEq] at e
                cases e.1
              · simp only [Value.slice.injEq, Option.some.injEq] at e
                obtain ⟨rfl, _⟩ := e
                have h1 := HEE.out
                have h2 := HZR.out
                show w.heap.size ≤ gx
                omega
            · rw [hmp', HN.out, List.take_of_length_le (by simp [kdL])]
            · rw [hrw', List.take_of_length_le (by rw [← HM.out]; exact Nat.le_refl _)]
          clear hdl hbx hox hmp hokd hrw htx hdl' hmp' hokd' hrw' hvr c1w
          go_wp2
          exact bodyPost_ret (v := .tuple #[.agg #[.string nm, .int .i64 N, .slice vp k vc], .int .i64 0]) (by simp [results, Tryz.results19, go_sem, r0, r1, r2]) rfl HH.out
end Go.Proofs.YtkficmbkoinjjaaGreatDoor
