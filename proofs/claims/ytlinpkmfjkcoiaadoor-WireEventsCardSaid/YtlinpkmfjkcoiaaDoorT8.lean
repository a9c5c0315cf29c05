/- Contract of the document's own answer's Decode. -/
import Derived.Test.YtlinpkmfjkcoiaaDoorT7
import Derived.LoopTactic
import Derived.Deep.RegionLaw
import Derived.Deep.AppendLies
namespace Go.Proofs.YtlinpkmfjkcoiaaDoor
open Go Go.RowKit
set_option maxHeartbeats 8000000
set_option linter.unusedVariables false
set_option linter.unusedSimpArgs false
theorem Rdr.new102 (w : World) (p : Option Addr) (n c : Nat) : Rdr (w.alloc (.cells #[.slice p n c, .int .i64 0, .int .i64 0] 102)) w.heap.size (.slice p n c) 0 0 := by
  refine ⟨?_, ?_, ?_, ?_, ?_⟩ <;> simp [go_sem]
/-- the head of the loop over the values, counted upwards -/
structure RefLoop (w : World) (R : Nat) (sv : Value) (l : List UInt8) (g0 g1 : Nat) (s : ByteArray) (tm : Int) (a4 : Nat) (f4 n0 : Int) (wr : World) (j : Nat) (done : List V4) (p' : Option Addr) (c' a' : Nat) (f' : Int) : Prop where
  af : After w wr R sv l.length a' f'
  t0 : Three wr g0 ⟨#[]⟩ 0 (.slice none 0 0)
  t1 : Three wr g1 s tm (.slice p' done.length c')
  own : wr.ownsRow (g1 + 1) 96 4 (.slice p' done.length c') done.length (cells4 done)
  st : ValsSt l a4 f4 n0 done (n0 - j) a' f'
  nj : f' = 0 → (j : Int) ≤ n0
set_option maxRecDepth 100000 in
theorem refDecode_any (p : Option Addr) (c : Nat) (l : List UInt8) (w : World) (h : In w p l) (hc : l.length ≤ c) (hm : c ≤ maxLen) : Calls Tryd.prog 29 #[.slice p l.length c] w (DecIs w l) := by
  obtain ⟨i0, hi, hz0, hz1, hz2⟩ := info_parts infoVal
  have hA : Below w.heap.size w (w.alloc (.cells #[.string ⟨#[]⟩, .int .i64 0, .slice none 0 0] 24)) := (Below.refl _ _).alloc (Nat.le_refl _) _
  have hb1 : Below w.heap.size w ((w.alloc (.cells #[.string ⟨#[]⟩, .int .i64 0, .slice none 0 0] 24)).alloc (.cells #[.slice p l.length c, .int .i64 0, .int .i64 0] 102)) := hA.alloc (by simp) _
  have hr0 := (Rdr.new102 (w.alloc (.cells #[.string ⟨#[]⟩, .int .i64 0, .slice none 0 0] 24)) p l.length c)
  simp only [World.size_alloc] at hr0
  obtain ⟨wb, hwb⟩ : ∃ x, x = ((w.alloc (.cells #[.string ⟨#[]⟩, .int .i64 0, .slice none 0 0] 24)).alloc (.cells #[.slice p l.length c, .int .i64 0, .int .i64 0] 102)) := ⟨_, rfl⟩
  have hsb : wb.heap.size = w.heap.size + 2 := by rw [hwb]; simp
  have T0b : Three wb w.heap.size ⟨#[]⟩ 0 (.slice none 0 0) := by
    rw [hwb]
    exact (Three.new w ⟨#[]⟩ 0 none 0 0).below ((Below.refl _ _).alloc (Nat.le_refl _) _)
  rw [← hwb] at hb1 hr0
  have hL : Lies wb (w.heap.size + 1) p c l 0 0 := ⟨hr0, h.byt hb1 (by omega), Nat.zero_le _, hc, hm⟩
  obtain ⟨w0, hw0⟩ : ∃ x, x = wb.alloc (.cells #[.string ⟨#[]⟩, .int .i64 0, .slice none 0 0] 24) := ⟨_, rfl⟩
  have T0 : Hid (Three w0 w.heap.size ⟨#[]⟩ 0 (.slice none 0 0)) := by
    show Three _ _ _ _ _
    rw [hw0]
    exact T0b.below ((Below.refl _ _).alloc (Nat.le_refl _) _)
  have T1 : Hid (Three w0 (w.heap.size + 2) ⟨#[]⟩ 0 (.slice none 0 0)) := by
    show Three _ _ _ _ _
    rw [hw0, ← hsb]
    exact Three.new wb ⟨#[]⟩ 0 none 0 0
  have HA0 : Hid (After wb w0 (w.heap.size + 1) (.slice p l.length c) l.length 0 0) := by
    show After _ _ _ _ _ _ _
    rw [hw0]
    exact (After.refl hL.rd hL.le).alloc _
  have HB0 : Hid (Below w.heap.size w wb) := hb1
  have HL := Lib.hid hL
  have HW : Hid (w0 = (((w.alloc (.cells #[.string ⟨#[]⟩, .int .i64 0, .slice none 0 0] 24)).alloc (.cells #[.slice p l.length c, .int .i64 0, .int .i64 0] 102)).alloc (.cells #[.string ⟨#[]⟩, .int .i64 0, .slice none 0 0] 24))) := by show _ = _; rw [hw0, hwb]
  have SB : Hid (wb.heap.size = w.heap.size + 2) := hsb
  obtain ⟨B, hB⟩ : ∃ B, B = w.heap.size := ⟨_, rfl⟩
  have HB := Lib.hid hB
  rw [← hB] at HL T0 T1 SB HA0
  obtain ⟨R, hR⟩ : ∃ R, R = B + 1 := ⟨_, rfl⟩
  obtain ⟨g1, hg1⟩ : ∃ g1, g1 = B + 2 := ⟨_, rfl⟩
  rw [← hR] at HL HA0
  rw [← hg1] at T1 SB
  have HRE := Lib.hid hR
  have HGE := Lib.hid hg1
  have HRL : Hid (R < wb.heap.size) := by have := SB.out; show _ < _; omega
  have HBR : Hid (B < wb.heap.size) := by have := SB.out; show _ < _; omega
  have Q1 : Hid (wb.heap.size ≤ g1) := by have := SB.out; show _ ≤ _; omega
  have r0 : B ≠ R := by omega
  have r1 : g1 ≠ R := by omega
  have r01 : B ≠ g1 := by omega
  have r10 : g1 ≠ B := by omega
  have RG1 : Hid (R < g1 + 1) := by show _ < _; omega
  have RG01 : Hid (B < g1 + 1) := by show _ < _; omega
  have RG2 : Hid (wb.heap.size ≤ g1 + 1) := by have := SB.out; show _ ≤ _; omega
  have RG3 : Hid (w.heap.size ≤ g1 + 1) := by show _ ≤ _; omega
  have HT : Hid (∀ wx a' f' lo hi, 0 ≤ lo → Lies wx R p c l a' f' → Calls Tryd.prog 58 #[.pointer (some ⟨R, 0, none⟩), .int .i64 lo, .int .i64 hi] wx (Txt wx R (.slice p l.length c) l a' f' lo hi)) := fun wx a' f' lo hi h0 h1 => refText_any R p c l a' f' lo hi h0 wx h1
  have HN : Hid (∀ wx a' f' lo hi, Lies wx R p c l a' f' → Calls Tryd.prog 60 #[.pointer (some ⟨R, 0, none⟩), .int .i64 lo, .int .i64 hi] wx (NumIn wx R (.slice p l.length c) l a' f' lo hi)) := fun wx a' f' lo hi h1 => refNum_any R p c l a' f' lo hi wx h1
  have HV : Hid (∀ wx a' f', Lies wx R p c l a' f' → Calls Tryd.prog 61 #[.pointer (some ⟨R, 0, none⟩)] wx (Val wx R (.slice p l.length c) l a' f')) := fun wx a' f' h1 => refVal_any R p c l a' f' wx h1
  clear h hL hb1 hA hw0 hwb hr0 hc hm T0b hsb
  go_enter Tryd.func29, Tryd.ntmps29
  go_upto_region 3 with fail
  rw [← HW.out, ← hB]
  first | rw [← hg1, ← hR] | rw [← hR]
  clear hB hR hg1
  go_wp2_with fail
  refine (HT.out w0 0 0 1 32 (by omega) (HL.out.after HA0.out)).mono ?_
  rintro e w1 ⟨s, a1, f1, rfl, hsz, haf1, hca1⟩
  have HA1 := Lib.hid (HA0.out.trans haf1)
  have HC1 := Lib.hid hca1
  have T0' := Lib.hid (T0.out.keeps haf1.g r0)
  have T1' := Lib.hid (T1.out.keeps haf1.g r1)
  clear haf1 hca1
  obtain ⟨y0, y1, y2, yz0, yz1, yz2⟩ := T1'.out
  go_upto_region 4 with fail
  have HA2 := Lib.hid (HA1.out.set Q1.out HRL.out 0 (.string ⟨s.toArray⟩))
  have T0a := Lib.hid (T0'.out.other (u := .string ⟨s.toArray⟩) (o := 0) r01)
  have T1a := Lib.hid (T1'.out.ty ⟨s.toArray⟩)
  clear y0 y1 y2 yz0 yz1 yz2
  obtain ⟨w2, hw2⟩ : ∃ x, x = w1.setCell ⟨g1, 0, none⟩ (.string ⟨s.toArray⟩) := ⟨_, rfl⟩
  rw [← hw2] at HA2 T0a T1a ⊢
  clear hw2
  obtain ⟨y0, y1, y2, yz0, yz1, yz2⟩ := T1a.out
  obtain ⟨x0, x1, x2, xz1, xz2⟩ := HA2.out.r
  have hcase : (f1 ≠ 0) ∨ (f1 = 0 ∧ nameL s = true) ∨ (f1 = 0 ∧ nameL s = false) := by
    by_cases h : f1 = 0
    · cases hn : nameL s
      · exact .inr (.inr ⟨h, rfl⟩)
      · exact .inr (.inl ⟨h, rfl⟩)
    · exact .inl h
  rcases hcase with hf | ⟨hf, hn⟩ | ⟨hf, hn⟩
  · have df : (f1 == 0) = false := by simpa using hf
    have HC4 : Hid (Came 0 a1 0 f1 (((text 1 32).only nameL) (l.drop 0)) (· = s)) := HC1.out.only nameL (fun _ => rfl) (fun _ => rfl) (fun h => absurd h hf)
    clear hf
    go_upto_region 6 with fail
    obtain ⟨w4, hw4⟩ : ∃ w4, w4 = w2 := ⟨_, rfl⟩
    rw [← hw4] at HA2 T0a T1a ⊢
    obtain ⟨f2, HA4, HX4⟩ : ∃ f2, Hid (After wb w4 R (.slice p l.length c) l.length a1 f2) ∧ Hid (Came 0 a1 0 f2 (((text 1 32).only nameL) (l.drop 0)) (· = s)) := ⟨f1, HA2, HC4⟩
    have T0c := Lib.hid T0a.out
    have T1c := Lib.hid T1a.out
    clear hw4 y0 y1 y2 yz0 yz1 yz2 x0 x1 x2 xz1 xz2 df HA2 T0a T1a HC4
    go_wp2_with fail
    refine (HN.out w4 a1 f2 0 4611686018427387904 (HL.out.after HA4.out)).mono ?_
    rintro e w5 ⟨tm, a3, f3, rfl, hi64, haf5, hca5⟩
    have HA5 := Lib.hid (HA4.out.trans haf5)
    have HC5 := Lib.hid hca5
    have T0d := Lib.hid (T0c.out.keeps haf5.g r0)
    have T1d := Lib.hid (T1c.out.keeps haf5.g r1)
    clear haf5 hca5
    obtain ⟨y0, y1, y2, yz0, yz1, yz2⟩ := T1d.out
    go_upto_region 7 with fail
    have HA6 := Lib.hid (HA5.out.set Q1.out HRL.out 1 (.int .i64 tm))
    have T0e := Lib.hid (T0d.out.other (u := .int .i64 tm) (o := 1) r01)
    have T1e := Lib.hid (T1d.out.tm tm)
    clear y0 y1 y2 yz0 yz1 yz2
    obtain ⟨w6, hw6⟩ : ∃ x, x = w5.setCell ⟨g1, 1, none⟩ (.int .i64 tm) := ⟨_, rfl⟩
    rw [← hw6] at HA6 T0e T1e ⊢
    clear hw6
    go_wp2_with fail
    refine (HN.out w6 a3 f3 0 16 (HL.out.after HA6.out)).mono ?_
    rintro e w7 ⟨n0, a4, f4, rfl, hi64', haf7, hca7⟩
    have HA7 := Lib.hid (HA6.out.trans haf7)
    have HC7 := Lib.hid hca7
    have T0f := Lib.hid (T0e.out.keeps haf7.g r0)
    have T1f := Lib.hid (T1e.out.keeps haf7.g r1)
    have HI := Lib.hid hi64'
    have HN0 : Hid (f4 = 0 → 0 ≤ n0 ∧ n0 ≤ 16) := by
      intro h0
      rcases HC7.out with ⟨h1, h2⟩ | ⟨h1, h2⟩
      · exact absurd (h2.symm.trans h0) h1
      · cases hr : numW 0 16 (l.drop a3) with
        | bad E => rw [hr] at h2; exact absurd (h2.1.symm.trans h0) h2.2
        | ok v k =>
          rw [hr] at h2
          obtain ⟨_, _, rfl⟩ := h2
          exact ((numW_form 0 16 (by omega) (by omega)).back _ _ _ hr).1
    clear haf7 hca7 hi64'
    have HEV : Hid (∀ (a' : Nat) (f' n : Int) (done : List V4), ValsSt l a4 f4 n0 done n a' f' → (n ≤ 0 ∨ f' ≠ 0) → Came 0 a' 0 f' (evtR (l.drop 0)) (· = ⟨⟨s.toArray⟩, tm, done⟩)) := fun a' f' n done hst hn => HX4.out.andThen (HC5.out.andThen (HC7.out.andThen (hst.done hn).map))
    clear HX4 HC5 HC7 HC1
    go_wp2
    go_loopw [8] (fun iv wr => ∃ (j : Nat) (done : List V4) (p' : Option Addr) (c' a' : Nat) (f' : Int), j ≤ 16 ∧ iv = .int .i64 j ∧ RefLoop wb R (.slice p l.length c) l B g1 ⟨s.toArray⟩ tm a4 f4 n0 wr j done p' c' a' f') (fun iv _ => 17 - (intOf iv).toNat)
    case atStart => exact ⟨0, [], none, 0, a4, f4, by omega, rfl, HA7.out, T0f.out, T1f.out, World.ownsRow_nil _ _ _ _, by simpa using ValsSt.start l a4 f4 n0 (fun h => (HN0.out h).1), fun h => (by have := HN0.out h; omega)⟩
    case round =>
      obtain ⟨j, done, p', c', a', f', hj16, rfl, haf, ht0, ht1, hown, hst, hnj⟩ := hrel
      have AF := Lib.hid haf
      have TT0 := Lib.hid ht0
      have TT1 := Lib.hid ht1
      have OWN := Lib.hid hown
      have ST := Lib.hid hst
      have NJ := Lib.hid hnj
      have b0 := haf.r.c2
      have HAC : Hid (wr.cell? ⟨R, 0, none⟩ = some (.slice p l.length c) ∧ wr.cell? ⟨R, 1, none⟩ = some (.int .i64 a')) := ⟨haf.r.c0, haf.r.c1⟩
      have HBW : Hid (B < wr.heap.size) := Nat.lt_of_lt_of_le HBR.out haf.g.size
      have HBB : Hid (Below w.heap.size w wr) := HB0.out.trans (Below.of_grown haf.g (by have := HB.out; have := HRE.out; omega) HB0.out.size)
      have hin := HI.out
      have hin1 := hin.1
      have hin2 := hin.2
      clear haf hst hown hnj hin
      by_cases hn : (j : Int) < n0
      · have dn : decide ((j : Int) < n0) = true := by simpa using hn
        by_cases hf : f' = 0
        · have df : (f' == 0) = true := by simpa using hf
          have HF := Lib.hid hf
          clear hf
          go_wp2
          have hd16 : done.length + 1 ≤ 16 := by
            have h1 := ST.out.few HF.out
            have h2 : f4 = 0 := by
              cases ST.out with
              | on h0 => exact h0
              | off h1 => exact absurd HF.out h1
            have := HN0.out h2
            omega
          have hm1 : done.length + 1 ≤ maxLen := by unfold maxLen; omega
          have hm2 : (done.length + 1) * 40 ≤ 140737488355328 := by omega
          have HJ : Hid (j + 1 ≤ 16) := by
            have h2 : f4 = 0 := by
              cases ST.out with
              | on h0 => exact h0
              | off h1 => exact absurd HF.out h1
            have := HN0.out h2
            show _ ≤ _
            omega
          obtain ⟨y0, y1, y2, yz0, yz1, yz2⟩ := ht1
          have HVX : Hid (∀ wx, After wr wx R (.slice p l.length c) l.length a' f' → Calls Tryd.prog 61 #[.pointer (some ⟨R, 0, none⟩)] wx (ValX wx R (.slice p l.length c) l a' f')) := fun wx h1 => (HV.out wx a' f' (HL.out.after (AF.out.trans h1))).mono fun e w' h => ValX.of h
          go_region_law (first | (refine step_append_lies _ rfl _ _ 22 rfl (g1 + 1) 96 i0 (.agg #[.int .i64 0, .int .i64 0, .string ⟨#[]⟩, .bool false]) 4 40 Tryd.underlying22 hi hz0 hz1 hz2 rfl (by decide) (.slice p' done.length c') done.length (cells4 done) rfl (OWN8.out.alloc _) ⟨w8.heap.size, 0, none⟩ 1 1 [.int .i64 vk, .int .i64 vn, .string vs, .bool vb] rfl rfl (fun j u h => lit_cells w8 _ _ j u h) (ones4 vk vn vs vb) (by decide) hm1 hm2 (HB8.out _) (w8.heap.size + 1) (by simp) ?_; intro g cap w9 hown9 hgrow9 hwhere9 hlt9; have T9 := Lib.hid ((T8.out.below ((Below.refl _ _).alloc (Nat.le_refl _) _)).grown hgrow9 (own_not OWN8.out (Nat.lt_succ_self _))); have T09 := Lib.hid ((T08.out.below ((Below.refl _ _).alloc (Nat.le_refl _) _)).grown hgrow9 (own_not OWN8.out RG01.out)); have AF9 := Lib.hid (((AF.out.trans HAF8.out).alloc _).grown hgrow9 HRL.out (fun k hk => Nat.le_trans RG2.out (own_from OWN8.out k hk))); have HOWN9 := Lib.hid hown9; clear hown9 hgrow9 hwhere9 hlt9; obtain ⟨x0, x1, x2, xz0, xz1, xz2⟩ := T9.out) | (go_simp; go_at_call 61; refine (HVX.out wr.drew (After.refl AF.out.r AF.out.le).drew).mono ?_; rintro e w8 ⟨vk, vn, vs, vb, a8, f8, rfl, haf8, hca8⟩; have HG8 : Hid (g1 < w8.heap.size) := Nat.lt_of_lt_of_le (lt_of_cell TT1.out.c0) haf8.undrew.g.size; have HAF8 := Lib.hid haf8.undrew; have HCA8 := Lib.hid hca8; have T8 := Lib.hid (TT1.out.keeps haf8.undrew.g r1); have T08 := Lib.hid (TT0.out.keeps haf8.undrew.g r0); have OWN8 := Lib.hid (own_keeps OWN.out haf8.undrew.g RG1.out); have HB8 : Hid (∀ o : Obj, g1 + 1 ≤ (w8.alloc o).heap.size) := fun o => (by have := HG8.out; simp; omega); clear haf8 hca8; have g8 := HG8.out; obtain ⟨q0, q1, q2, qz0, qz1, qz2⟩ := T8.out))
          all_goals
            go_wp2
            go_roundw
            case rel =>
              refine ⟨j + 1, done ++ [⟨vk, vn, vs, vb⟩], some ⟨g, 0, none⟩, cap, a8, f8, HJ.out, by first | rfl | go_num, ?_⟩
              have T0x := T09.out.other (u := .slice (some ⟨g, 0, none⟩) (done.length + 1) cap) (o := 2) r01
              have T1x := T9.out.vs (.slice (some ⟨g, 0, none⟩) (done.length + 1) cap)
              have OX := own_set (b := g1) (o := 2) (u := .slice (some ⟨g, 0, none⟩) (done.length + 1) cap) HOWN9.out (Nat.lt_succ_self _)
              have AX := AF9.out.set Q1.out HRL.out 2 (.slice (some ⟨g, 0, none⟩) (done.length + 1) cap)
              have e : (done ++ [(⟨vk, vn, vs, vb⟩ : V4)]).length = done.length + 1 := by simp
              have hst2 := ST.out.step (by omega) HF.out HCA8.out
              have e2 : n0 - ((j + 1 : Nat) : Int) = n0 - (j : Int) - 1 := by omega
              refine ⟨AX, T0x, ?_, ?_, by rw [e2]; exact hst2, fun _ => by omega⟩
              · rw [e]; exact T1x
              · rw [e, cells4_snoc]; exact OX
            case measure => simp [intOf]; omega
        · have df : (f' == 0) = false := by simpa using hf
          have dg : (f' != 0) = true := by simpa using hf
          have HF := Lib.hid hf
          clear hf
          obtain ⟨x0, x1, x2, xz0, xz1, xz2⟩ := ht0
          obtain ⟨b1, b2⟩ := HAC.out
          have hb0 := HBW.out
          go_wp2
          go_region
          all_goals
            go_wp2
            refine bodyPost_ret (v := .tuple #[.agg #[.string ⟨#[]⟩, .int .i64 0, .slice none 0 0], .int .i64 0, .int .i64 f']) (by simp [results, Tryd.results29, go_sem, x0, x1, x2, hb0]) rfl ?_
            have q : w.heap.size ≤ B := by have := HB.out; omega
            refine ⟨by repeat (first | exact HBB.out | apply Below.drew | refine Below.setCell ?_ (by assumption) _), ?_⟩
            rcases HEV.out a' f' _ done ST.out (.inr HF.out) with ⟨h, _⟩ | ⟨_, h⟩
            · exact absurd rfl h
            · cases hr : evtR (l.drop 0) with
              | bad E =>
                rw [hr] at h
                rw [List.drop_zero] at hr
                rw [hr]
                exact ⟨by rw [h.1], h.2⟩
              | ok v k =>
                rw [hr] at h
                exact absurd h.1 HF.out
      · have dn : decide ((j : Int) < n0) = false := by simpa using hn
        have HNN : Hid (n0 - (j : Int) ≤ 0) := by show _ ≤ _; omega
        by_cases hf : f' = 0
        · have dg : (f' != 0) = false := by simpa using hf
          have HF := Lib.hid hf
          clear hf
          obtain ⟨x0, x1, x2, xz0, xz1, xz2⟩ := ht0
          obtain ⟨y0, y1, y2, yz0, yz1, yz2⟩ := ht1
          obtain ⟨b1, b2⟩ := HAC.out
          have hb0 := HBW.out
          go_wp2
          go_region
          all_goals
            go_wp2
            refine bodyPost_ret (v := .tuple #[.agg #[.string ⟨s.toArray⟩, .int .i64 tm, .slice p' done.length c'], .int .i64 a', .int .i64 0]) (by simp [results, Tryd.results29, go_sem, x0, x1, x2, y0, y1, y2, hb0]) rfl ?_
            have q : w.heap.size ≤ B := by have := HB.out; omega
            refine ⟨by repeat (first | exact HBB.out | apply Below.drew | refine Below.setCell ?_ (by assumption) _), ?_⟩
            rcases HEV.out a' f' _ done ST.out (.inl HNN.out) with ⟨h, _⟩ | ⟨_, h⟩
            · exact absurd rfl h
            · cases hr : evtR (l.drop 0) with
              | bad E => rw [hr] at h; exact absurd (h.1.symm.trans HF.out) h.2
              | ok ev k =>
                rw [hr] at h
                obtain ⟨_, h2, rfl⟩ := h
                rw [List.drop_zero] at hr
                rw [hr]
                simp only
                rw [h2, Nat.zero_add]
                exact ⟨_, rfl, own_base (own_set (own_set (own_set OWN.out RG01.out) RG01.out) RG01.out) RG3.out⟩
        · have dg : (f' != 0) = true := by simpa using hf
          have HF := Lib.hid hf
          clear hf
          obtain ⟨x0, x1, x2, xz0, xz1, xz2⟩ := ht0
          obtain ⟨b1, b2⟩ := HAC.out
          have hb0 := HBW.out
          go_wp2
          go_region
          all_goals
            go_wp2
            refine bodyPost_ret (v := .tuple #[.agg #[.string ⟨#[]⟩, .int .i64 0, .slice none 0 0], .int .i64 0, .int .i64 f']) (by simp [results, Tryd.results29, go_sem, x0, x1, x2, hb0]) rfl ?_
            have q : w.heap.size ≤ B := by have := HB.out; omega
            refine ⟨by repeat (first | exact HBB.out | apply Below.drew | refine Below.setCell ?_ (by assumption) _), ?_⟩
            rcases HEV.out a' f' _ done ST.out (.inr HF.out) with ⟨h, _⟩ | ⟨_, h⟩
            · exact absurd rfl h
            · cases hr : evtR (l.drop 0) with
              | bad E =>
                rw [hr] at h
                rw [List.drop_zero] at hr
                rw [hr]
                exact ⟨by rw [h.1], h.2⟩
              | ok v k =>
                rw [hr] at h
                exact absurd h.1 HF.out
  · subst hf
    have HNM := Lib.hid hn
    have htl : (⟨s.toArray⟩ : ByteArray).toList = s := toList_mk s
    have HTL := Lib.hid htl
    have HC4 : Hid (Came 0 a1 0 0 (((text 1 32).only nameL) (l.drop 0)) (· = s)) := HC1.out.only nameL (fun _ => rfl) (fun _ => rfl) (fun _ h => by rw [hn] at h; cases h)
    clear hn htl
    go_wp2_with fail
    refine (name_r _ _).mono ?_
    rw [HTL.out, HNM.out]
    rintro e w4 ⟨rfl, hb3⟩
    have HA5 := Lib.hid (HA2.out.below hb3)
    have T0c := Lib.hid (T0a.out.below hb3)
    have T1c := Lib.hid (T1a.out.below hb3)
    clear hb3 y0 y1 y2 yz0 yz1 yz2 x0 x1 x2 xz1 xz2 HA2 T0a T1a
    go_upto_region 6 with fail
    obtain ⟨f2, HA4, HX4⟩ : ∃ f2, Hid (After wb w4 R (.slice p l.length c) l.length a1 f2) ∧ Hid (Came 0 a1 0 f2 (((text 1 32).only nameL) (l.drop 0)) (· = s)) := ⟨0, HA5, HC4⟩
    clear HA5 HC4
    go_wp2_with fail
    refine (HN.out w4 a1 f2 0 4611686018427387904 (HL.out.after HA4.out)).mono ?_
    rintro e w5 ⟨tm, a3, f3, rfl, hi64, haf5, hca5⟩
    have HA5 := Lib.hid (HA4.out.trans haf5)
    have HC5 := Lib.hid hca5
    have T0d := Lib.hid (T0c.out.keeps haf5.g r0)
    have T1d := Lib.hid (T1c.out.keeps haf5.g r1)
    clear haf5 hca5
    obtain ⟨y0, y1, y2, yz0, yz1, yz2⟩ := T1d.out
    go_upto_region 7 with fail
    have HA6 := Lib.hid (HA5.out.set Q1.out HRL.out 1 (.int .i64 tm))
    have T0e := Lib.hid (T0d.out.other (u := .int .i64 tm) (o := 1) r01)
    have T1e := Lib.hid (T1d.out.tm tm)
    clear y0 y1 y2 yz0 yz1 yz2
    obtain ⟨w6, hw6⟩ : ∃ x, x = w5.setCell ⟨g1, 1, none⟩ (.int .i64 tm) := ⟨_, rfl⟩
    rw [← hw6] at HA6 T0e T1e ⊢
    clear hw6
    go_wp2_with fail
    refine (HN.out w6 a3 f3 0 16 (HL.out.after HA6.out)).mono ?_
    rintro e w7 ⟨n0, a4, f4, rfl, hi64', haf7, hca7⟩
    have HA7 := Lib.hid (HA6.out.trans haf7)
    have HC7 := Lib.hid hca7
    have T0f := Lib.hid (T0e.out.keeps haf7.g r0)
    have T1f := Lib.hid (T1e.out.keeps haf7.g r1)
    have HI := Lib.hid hi64'
    have HN0 : Hid (f4 = 0 → 0 ≤ n0 ∧ n0 ≤ 16) := by
      intro h0
      rcases HC7.out with ⟨h1, h2⟩ | ⟨h1, h2⟩
      · exact absurd (h2.symm.trans h0) h1
      · cases hr : numW 0 16 (l.drop a3) with
        | bad E => rw [hr] at h2; exact absurd (h2.1.symm.trans h0) h2.2
        | ok v k =>
          rw [hr] at h2
          obtain ⟨_, _, rfl⟩ := h2
          exact ((numW_form 0 16 (by omega) (by omega)).back _ _ _ hr).1
    clear haf7 hca7 hi64'
    have HEV : Hid (∀ (a' : Nat) (f' n : Int) (done : List V4), ValsSt l a4 f4 n0 done n a' f' → (n ≤ 0 ∨ f' ≠ 0) → Came 0 a' 0 f' (evtR (l.drop 0)) (· = ⟨⟨s.toArray⟩, tm, done⟩)) := fun a' f' n done hst hn => HX4.out.andThen (HC5.out.andThen (HC7.out.andThen (hst.done hn).map))
    clear HX4 HC5 HC7 HC1
    go_wp2
    go_loopw [8] (fun iv wr => ∃ (j : Nat) (done : List V4) (p' : Option Addr) (c' a' : Nat) (f' : Int), j ≤ 16 ∧ iv = .int .i64 j ∧ RefLoop wb R (.slice p l.length c) l B g1 ⟨s.toArray⟩ tm a4 f4 n0 wr j done p' c' a' f') (fun iv _ => 17 - (intOf iv).toNat)
    case atStart => exact ⟨0, [], none, 0, a4, f4, by omega, rfl, HA7.out, T0f.out, T1f.out, World.ownsRow_nil _ _ _ _, by simpa using ValsSt.start l a4 f4 n0 (fun h => (HN0.out h).1), fun h => (by have := HN0.out h; omega)⟩
    case round =>
      obtain ⟨j, done, p', c', a', f', hj16, rfl, haf, ht0, ht1, hown, hst, hnj⟩ := hrel
      have AF := Lib.hid haf
      have TT0 := Lib.hid ht0
      have TT1 := Lib.hid ht1
      have OWN := Lib.hid hown
      have ST := Lib.hid hst
      have NJ := Lib.hid hnj
      have b0 := haf.r.c2
      have HAC : Hid (wr.cell? ⟨R, 0, none⟩ = some (.slice p l.length c) ∧ wr.cell? ⟨R, 1, none⟩ = some (.int .i64 a')) := ⟨haf.r.c0, haf.r.c1⟩
      have HBW : Hid (B < wr.heap.size) := Nat.lt_of_lt_of_le HBR.out haf.g.size
      have HBB : Hid (Below w.heap.size w wr) := HB0.out.trans (Below.of_grown haf.g (by have := HB.out; have := HRE.out; omega) HB0.out.size)
      have hin := HI.out
      have hin1 := hin.1
      have hin2 := hin.2
      clear haf hst hown hnj hin
      by_cases hn : (j : Int) < n0
      · have dn : decide ((j : Int) < n0) = true := by simpa using hn
        by_cases hf : f' = 0
        · have df : (f' == 0) = true := by simpa using hf
          have HF := Lib.hid hf
          clear hf
          go_wp2
          have hd16 : done.length + 1 ≤ 16 := by
            have h1 := ST.out.few HF.out
            have h2 : f4 = 0 := by
              cases ST.out with
              | on h0 => exact h0
              | off h1 => exact absurd HF.out h1
            have := HN0.out h2
            omega
          have hm1 : done.length + 1 ≤ maxLen := by unfold maxLen; omega
          have hm2 : (done.length + 1) * 40 ≤ 140737488355328 := by omega
          have HJ : Hid (j + 1 ≤ 16) := by
            have h2 : f4 = 0 := by
              cases ST.out with
              | on h0 => exact h0
              | off h1 => exact absurd HF.out h1
            have := HN0.out h2
            show _ ≤ _
            omega
          obtain ⟨y0, y1, y2, yz0, yz1, yz2⟩ := ht1
          have HVX : Hid (∀ wx, After wr wx R (.slice p l.length c) l.length a' f' → Calls Tryd.prog 61 #[.pointer (some ⟨R, 0, none⟩)] wx (ValX wx R (.slice p l.length c) l a' f')) := fun wx h1 => (HV.out wx a' f' (HL.out.after (AF.out.trans h1))).mono fun e w' h => ValX.of h
          go_region_law (first | (refine step_append_lies _ rfl _ _ 22 rfl (g1 + 1) 96 i0 (.agg #[.int .i64 0, .int .i64 0, .string ⟨#[]⟩, .bool false]) 4 40 Tryd.underlying22 hi hz0 hz1 hz2 rfl (by decide) (.slice p' done.length c') done.length (cells4 done) rfl (OWN8.out.alloc _) ⟨w8.heap.size, 0, none⟩ 1 1 [.int .i64 vk, .int .i64 vn, .string vs, .bool vb] rfl rfl (fun j u h => lit_cells w8 _ _ j u h) (ones4 vk vn vs vb) (by decide) hm1 hm2 (HB8.out _) (w8.heap.size + 1) (by simp) ?_; intro g cap w9 hown9 hgrow9 hwhere9 hlt9; have T9 := Lib.hid ((T8.out.below ((Below.refl _ _).alloc (Nat.le_refl _) _)).grown hgrow9 (own_not OWN8.out (Nat.lt_succ_self _))); have T09 := Lib.hid ((T08.out.below ((Below.refl _ _).alloc (Nat.le_refl _) _)).grown hgrow9 (own_not OWN8.out RG01.out)); have AF9 := Lib.hid (((AF.out.trans HAF8.out).alloc _).grown hgrow9 HRL.out (fun k hk => Nat.le_trans RG2.out (own_from OWN8.out k hk))); have HOWN9 := Lib.hid hown9; clear hown9 hgrow9 hwhere9 hlt9; obtain ⟨x0, x1, x2, xz0, xz1, xz2⟩ := T9.out) | (go_simp; go_at_call 61; refine (HVX.out wr.drew (After.refl AF.out.r AF.out.le).drew).mono ?_; rintro e w8 ⟨vk, vn, vs, vb, a8, f8, rfl, haf8, hca8⟩; have HG8 : Hid (g1 < w8.heap.size) := Nat.lt_of_lt_of_le (lt_of_cell TT1.out.c0) haf8.undrew.g.size; have HAF8 := Lib.hid haf8.undrew; have HCA8 := Lib.hid hca8; have T8 := Lib.hid (TT1.out.keeps haf8.undrew.g r1); have T08 := Lib.hid (TT0.out.keeps haf8.undrew.g r0); have OWN8 := Lib.hid (own_keeps OWN.out haf8.undrew.g RG1.out); have HB8 : Hid (∀ o : Obj, g1 + 1 ≤ (w8.alloc o).heap.size) := fun o => (by have := HG8.out; simp; omega); clear haf8 hca8; have g8 := HG8.out; obtain ⟨q0, q1, q2, qz0, qz1, qz2⟩ := T8.out))
          all_goals
            go_wp2
            go_roundw
            case rel =>
              refine ⟨j + 1, done ++ [⟨vk, vn, vs, vb⟩], some ⟨g, 0, none⟩, cap, a8, f8, HJ.out, by first | rfl | go_num, ?_⟩
              have T0x := T09.out.other (u := .slice (some ⟨g, 0, none⟩) (done.length + 1) cap) (o := 2) r01
              have T1x := T9.out.vs (.slice (some ⟨g, 0, none⟩) (done.length + 1) cap)
              have OX := own_set (b := g1) (o := 2) (u := .slice (some ⟨g, 0, none⟩) (done.length + 1) cap) HOWN9.out (Nat.lt_succ_self _)
              have AX := AF9.out.set Q1.out HRL.out 2 (.slice (some ⟨g, 0, none⟩) (done.length + 1) cap)
              have e : (done ++ [(⟨vk, vn, vs, vb⟩ : V4)]).length = done.length + 1 := by simp
              have hst2 := ST.out.step (by omega) HF.out HCA8.out
              have e2 : n0 - ((j + 1 : Nat) : Int) = n0 - (j : Int) - 1 := by omega
              refine ⟨AX, T0x, ?_, ?_, by rw [e2]; exact hst2, fun _ => by omega⟩
              · rw [e]; exact T1x
              · rw [e, cells4_snoc]; exact OX
            case measure => simp [intOf]; omega
        · have df : (f' == 0) = false := by simpa using hf
          have dg : (f' != 0) = true := by simpa using hf
          have HF := Lib.hid hf
          clear hf
          obtain ⟨x0, x1, x2, xz0, xz1, xz2⟩ := ht0
          obtain ⟨b1, b2⟩ := HAC.out
          have hb0 := HBW.out
          go_wp2
          go_region
          all_goals
            go_wp2
            refine bodyPost_ret (v := .tuple #[.agg #[.string ⟨#[]⟩, .int .i64 0, .slice none 0 0], .int .i64 0, .int .i64 f']) (by simp [results, Tryd.results29, go_sem, x0, x1, x2, hb0]) rfl ?_
            have q : w.heap.size ≤ B := by have := HB.out; omega
            refine ⟨by repeat (first | exact HBB.out | apply Below.drew | refine Below.setCell ?_ (by assumption) _), ?_⟩
            rcases HEV.out a' f' _ done ST.out (.inr HF.out) with ⟨h, _⟩ | ⟨_, h⟩
            · exact absurd rfl h
            · cases hr : evtR (l.drop 0) with
              | bad E =>
                rw [hr] at h
                rw [List.drop_zero] at hr
                rw [hr]
                exact ⟨by rw [h.1], h.2⟩
              | ok v k =>
                rw [hr] at h
                exact absurd h.1 HF.out
      · have dn : decide ((j : Int) < n0) = false := by simpa using hn
        have HNN : Hid (n0 - (j : Int) ≤ 0) := by show _ ≤ _; omega
        by_cases hf : f' = 0
        · have dg : (f' != 0) = false := by simpa using hf
          have HF := Lib.hid hf
          clear hf
          obtain ⟨x0, x1, x2, xz0, xz1, xz2⟩ := ht0
          obtain ⟨y0, y1, y2, yz0, yz1, yz2⟩ := ht1
          obtain ⟨b1, b2⟩ := HAC.out
          have hb0 := HBW.out
          go_wp2
          go_region
          all_goals
            go_wp2
            refine bodyPost_ret (v := .tuple #[.agg #[.string ⟨s.toArray⟩, .int .i64 tm, .slice p' done.length c'], .int .i64 a', .int .i64 0]) (by simp [results, Tryd.results29, go_sem, x0, x1, x2, y0, y1, y2, hb0]) rfl ?_
            have q : w.heap.size ≤ B := by have := HB.out; omega
            refine ⟨by repeat (first | exact HBB.out | apply Below.drew | refine Below.setCell ?_ (by assumption) _), ?_⟩
            rcases HEV.out a' f' _ done ST.out (.inl HNN.out) with ⟨h, _⟩ | ⟨_, h⟩
            · exact absurd rfl h
            · cases hr : evtR (l.drop 0) with
              | bad E => rw [hr] at h; exact absurd (h.1.symm.trans HF.out) h.2
              | ok ev k =>
                rw [hr] at h
                obtain ⟨_, h2, rfl⟩ := h
                rw [List.drop_zero] at hr
                rw [hr]
                simp only
                rw [h2, Nat.zero_add]
                exact ⟨_, rfl, own_base (own_set (own_set (own_set OWN.out RG01.out) RG01.out) RG01.out) RG3.out⟩
        · have dg : (f' != 0) = true := by simpa using hf
          have HF := Lib.hid hf
          clear hf
          obtain ⟨x0, x1, x2, xz0, xz1, xz2⟩ := ht0
          obtain ⟨b1, b2⟩ := HAC.out
          have hb0 := HBW.out
          go_wp2
          go_region
          all_goals
            go_wp2
            refine bodyPost_ret (v := .tuple #[.agg #[.string ⟨#[]⟩, .int .i64 0, .slice none 0 0], .int .i64 0, .int .i64 f']) (by simp [results, Tryd.results29, go_sem, x0, x1, x2, hb0]) rfl ?_
            have q : w.heap.size ≤ B := by have := HB.out; omega
            refine ⟨by repeat (first | exact HBB.out | apply Below.drew | refine Below.setCell ?_ (by assumption) _), ?_⟩
            rcases HEV.out a' f' _ done ST.out (.inr HF.out) with ⟨h, _⟩ | ⟨_, h⟩
            · exact absurd rfl h
            · cases hr : evtR (l.drop 0) with
              | bad E =>
                rw [hr] at h
                rw [List.drop_zero] at hr
                rw [hr]
                exact ⟨by rw [h.1], h.2⟩
              | ok v k =>
                rw [hr] at h
                exact absurd h.1 HF.out
  · subst hf
    have HNM := Lib.hid hn
    have htl : (⟨s.toArray⟩ : ByteArray).toList = s := toList_mk s
    have HTL := Lib.hid htl
    clear hn htl
    go_wp2_with fail
    refine (name_r _ _).mono ?_
    rw [HTL.out, HNM.out]
    rintro e w3 ⟨rfl, hb3⟩
    have HA3 := Lib.hid (HA2.out.below hb3)
    have T0b := Lib.hid (T0a.out.below hb3)
    have T1b := Lib.hid (T1a.out.below hb3)
    clear hb3 y0 y1 y2 yz0 yz1 yz2 x0 x1 x2 xz1 xz2 HA2 T0a T1a
    go_wp2_with fail
    refine (fault_dem R _ l.length a1 0 31 w3 HA3.out.r HA3.out.le).mono ?_
    rintro e w4 ⟨rfl, f2, haf4, hd1, hd2, hd3⟩
    have HA4 := Lib.hid (HA3.out.trans haf4)
    have HX4 : Hid (Came 0 a1 0 f2 (((text 1 32).only nameL) (l.drop 0)) (· = s)) := HC1.out.only nameL (fun h => absurd rfl h) (fun h => by rw [HNM.out] at h; cases h) (fun _ _ => hd3 rfl rfl)
    have T0c := Lib.hid (T0b.out.keeps haf4.g r0)
    have T1c := Lib.hid (T1b.out.keeps haf4.g r1)
    clear haf4 hd3 hd1 hd2
    go_upto_region 6 with fail
    go_wp2_with fail
    refine (HN.out w4 a1 f2 0 4611686018427387904 (HL.out.after HA4.out)).mono ?_
    rintro e w5 ⟨tm, a3, f3, rfl, hi64, haf5, hca5⟩
    have HA5 := Lib.hid (HA4.out.trans haf5)
    have HC5 := Lib.hid hca5
    have T0d := Lib.hid (T0c.out.keeps haf5.g r0)
    have T1d := Lib.hid (T1c.out.keeps haf5.g r1)
    clear haf5 hca5
    obtain ⟨y0, y1, y2, yz0, yz1, yz2⟩ := T1d.out
    go_upto_region 7 with fail
    have HA6 := Lib.hid (HA5.out.set Q1.out HRL.out 1 (.int .i64 tm))
    have T0e := Lib.hid (T0d.out.other (u := .int .i64 tm) (o := 1) r01)
    have T1e := Lib.hid (T1d.out.tm tm)
    clear y0 y1 y2 yz0 yz1 yz2
    obtain ⟨w6, hw6⟩ : ∃ x, x = w5.setCell ⟨g1, 1, none⟩ (.int .i64 tm) := ⟨_, rfl⟩
    rw [← hw6] at HA6 T0e T1e ⊢
    clear hw6
    go_wp2_with fail
    refine (HN.out w6 a3 f3 0 16 (HL.out.after HA6.out)).mono ?_
    rintro e w7 ⟨n0, a4, f4, rfl, hi64', haf7, hca7⟩
    have HA7 := Lib.hid (HA6.out.trans haf7)
    have HC7 := Lib.hid hca7
    have T0f := Lib.hid (T0e.out.keeps haf7.g r0)
    have T1f := Lib.hid (T1e.out.keeps haf7.g r1)
    have HI := Lib.hid hi64'
    have HN0 : Hid (f4 = 0 → 0 ≤ n0 ∧ n0 ≤ 16) := by
      intro h0
      rcases HC7.out with ⟨h1, h2⟩ | ⟨h1, h2⟩
      · exact absurd (h2.symm.trans h0) h1
      · cases hr : numW 0 16 (l.drop a3) with
        | bad E => rw [hr] at h2; exact absurd (h2.1.symm.trans h0) h2.2
        | ok v k =>
          rw [hr] at h2
          obtain ⟨_, _, rfl⟩ := h2
          exact ((numW_form 0 16 (by omega) (by omega)).back _ _ _ hr).1
    clear haf7 hca7 hi64'
    have HEV : Hid (∀ (a' : Nat) (f' n : Int) (done : List V4), ValsSt l a4 f4 n0 done n a' f' → (n ≤ 0 ∨ f' ≠ 0) → Came 0 a' 0 f' (evtR (l.drop 0)) (· = ⟨⟨s.toArray⟩, tm, done⟩)) := fun a' f' n done hst hn => HX4.out.andThen (HC5.out.andThen (HC7.out.andThen (hst.done hn).map))
    clear HX4 HC5 HC7 HC1
    go_wp2
    go_loopw [8] (fun iv wr => ∃ (j : Nat) (done : List V4) (p' : Option Addr) (c' a' : Nat) (f' : Int), j ≤ 16 ∧ iv = .int .i64 j ∧ RefLoop wb R (.slice p l.length c) l B g1 ⟨s.toArray⟩ tm a4 f4 n0 wr j done p' c' a' f') (fun iv _ => 17 - (intOf iv).toNat)
    case atStart => exact ⟨0, [], none, 0, a4, f4, by omega, rfl, HA7.out, T0f.out, T1f.out, World.ownsRow_nil _ _ _ _, by simpa using ValsSt.start l a4 f4 n0 (fun h => (HN0.out h).1), fun h => (by have := HN0.out h; omega)⟩
    case round =>
      obtain ⟨j, done, p', c', a', f', hj16, rfl, haf, ht0, ht1, hown, hst, hnj⟩ := hrel
      have AF := Lib.hid haf
      have TT0 := Lib.hid ht0
      have TT1 := Lib.hid ht1
      have OWN := Lib.hid hown
      have ST := Lib.hid hst
      have NJ := Lib.hid hnj
      have b0 := haf.r.c2
      have HAC : Hid (wr.cell? ⟨R, 0, none⟩ = some (.slice p l.length c) ∧ wr.cell? ⟨R, 1, none⟩ = some (.int .i64 a')) := ⟨haf.r.c0, haf.r.c1⟩
      have HBW : Hid (B < wr.heap.size) := Nat.lt_of_lt_of_le HBR.out haf.g.size
      have HBB : Hid (Below w.heap.size w wr) := HB0.out.trans (Below.of_grown haf.g (by have := HB.out; have := HRE.out; omega) HB0.out.size)
      have hin := HI.out
      have hin1 := hin.1
      have hin2 := hin.2
      clear haf hst hown hnj hin
      by_cases hn : (j : Int) < n0
      · have dn : decide ((j : Int) < n0) = true := by simpa using hn
        by_cases hf : f' = 0
        · have df : (f' == 0) = true := by simpa using hf
          have HF := Lib.hid hf
          clear hf
          go_wp2
          have hd16 : done.length + 1 ≤ 16 := by
            have h1 := ST.out.few HF.out
            have h2 : f4 = 0 := by
              cases ST.out with
              | on h0 => exact h0
              | off h1 => exact absurd HF.out h1
            have := HN0.out h2
            omega
          have hm1 : done.length + 1 ≤ maxLen := by unfold maxLen; omega
          have hm2 : (done.length + 1) * 40 ≤ 140737488355328 := by omega
          have HJ : Hid (j + 1 ≤ 16) := by
            have h2 : f4 = 0 := by
              cases ST.out with
              | on h0 => exact h0
              | off h1 => exact absurd HF.out h1
            have := HN0.out h2
            show _ ≤ _
            omega
          obtain ⟨y0, y1, y2, yz0, yz1, yz2⟩ := ht1
          have HVX : Hid (∀ wx, After wr wx R (.slice p l.length c) l.length a' f' → Calls Tryd.prog 61 #[.pointer (some ⟨R, 0, none⟩)] wx (ValX wx R (.slice p l.length c) l a' f')) := fun wx h1 => (HV.out wx a' f' (HL.out.after (AF.out.trans h1))).mono fun e w' h => ValX.of h
          go_region_law (first | (refine step_append_lies _ rfl _ _ 22 rfl (g1 + 1) 96 i0 (.agg #[.int .i64 0, .int .i64 0, .string ⟨#[]⟩, .bool false]) 4 40 Tryd.underlying22 hi hz0 hz1 hz2 rfl (by decide) (.slice p' done.length c') done.length (cells4 done) rfl (OWN8.out.alloc _) ⟨w8.heap.size, 0, none⟩ 1 1 [.int .i64 vk, .int .i64 vn, .string vs, .bool vb] rfl rfl (fun j u h => lit_cells w8 _ _ j u h) (ones4 vk vn vs vb) (by decide) hm1 hm2 (HB8.out _) (w8.heap.size + 1) (by simp) ?_; intro g cap w9 hown9 hgrow9 hwhere9 hlt9; have T9 := Lib.hid ((T8.out.below ((Below.refl _ _).alloc (Nat.le_refl _) _)).grown hgrow9 (own_not OWN8.out (Nat.lt_succ_self _))); have T09 := Lib.hid ((T08.out.below ((Below.refl _ _).alloc (Nat.le_refl _) _)).grown hgrow9 (own_not OWN8.out RG01.out)); have AF9 := Lib.hid (((AF.out.trans HAF8.out).alloc _).grown hgrow9 HRL.out (fun k hk => Nat.le_trans RG2.out (own_from OWN8.out k hk))); have HOWN9 := Lib.hid hown9; clear hown9 hgrow9 hwhere9 hlt9; obtain ⟨x0, x1, x2, xz0, xz1, xz2⟩ := T9.out) | (go_simp; go_at_call 61; refine (HVX.out wr.drew (After.refl AF.out.r AF.out.le).drew).mono ?_; rintro e w8 ⟨vk, vn, vs, vb, a8, f8, rfl, haf8, hca8⟩; have HG8 : Hid (g1 < w8.heap.size) := Nat.lt_of_lt_of_le (lt_of_cell TT1.out.c0) haf8.undrew.g.size; have HAF8 := Lib.hid haf8.undrew; have HCA8 := Lib.hid hca8; have T8 := Lib.hid (TT1.out.keeps haf8.undrew.g r1); have T08 := Lib.hid (TT0.out.keeps haf8.undrew.g r0); have OWN8 := Lib.hid (own_keeps OWN.out haf8.undrew.g RG1.out); have HB8 : Hid (∀ o : Obj, g1 + 1 ≤ (w8.alloc o).heap.size) := fun o => (by have := HG8.out; simp; omega); clear haf8 hca8; have g8 := HG8.out; obtain ⟨q0, q1, q2, qz0, qz1, qz2⟩ := T8.out))
          all_goals
            go_wp2
            go_roundw
            case rel =>
              refine ⟨j + 1, done ++ [⟨vk, vn, vs, vb⟩], some ⟨g, 0, none⟩, cap, a8, f8, HJ.out, by first | rfl | go_num, ?_⟩
              have T0x := T09.out.other (u := .slice (some ⟨g, 0, none⟩) (done.length + 1) cap) (o := 2) r01
              have T1x := T9.out.vs (.slice (some ⟨g, 0, none⟩) (done.length + 1) cap)
              have OX := own_set (b := g1) (o := 2) (u := .slice (some ⟨g, 0, none⟩) (done.length + 1) cap) HOWN9.out (Nat.lt_succ_self _)
              have AX := AF9.out.set Q1.out HRL.out 2 (.slice (some ⟨g, 0, none⟩) (done.length + 1) cap)
              have e : (done ++ [(⟨vk, vn, vs, vb⟩ : V4)]).length = done.length + 1 := by simp
              have hst2 := ST.out.step (by omega) HF.out HCA8.out
              have e2 : n0 - ((j + 1 : Nat) : Int) = n0 - (j : Int) - 1 := by omega
              refine ⟨AX, T0x, ?_, ?_, by rw [e2]; exact hst2, fun _ => by omega⟩
              · rw [e]; exact T1x
              · rw [e, cells4_snoc]; exact OX
            case measure => simp [intOf]; omega
        · have df : (f' == 0) = false := by simpa using hf
          have dg : (f' != 0) = true := by simpa using hf
          have HF := Lib.hid hf
          clear hf
          obtain ⟨x0, x1, x2, xz0, xz1, xz2⟩ := ht0
          obtain ⟨b1, b2⟩ := HAC.out
          have hb0 := HBW.out
          go_wp2
          go_region
          all_goals
            go_wp2
            refine bodyPost_ret (v := .tuple #[.agg #[.string ⟨#[]⟩, .int .i64 0, .slice none 0 0], .int .i64 0, .int .i64 f']) (by simp [results, Tryd.results29, go_sem, x0, x1, x2, hb0]) rfl ?_
            have q : w.heap.size ≤ B := by have := HB.out; omega
            refine ⟨by repeat (first | exact HBB.out | apply Below.drew | refine Below.setCell ?_ (by assumption) _), ?_⟩
            rcases HEV.out a' f' _ done ST.out (.inr HF.out) with ⟨h, _⟩ | ⟨_, h⟩
            · exact absurd rfl h
            · cases hr : evtR (l.drop 0) with
              | bad E =>
                rw [hr] at h
                rw [List.drop_zero] at hr
                rw [hr]
                exact ⟨by rw [h.1], h.2⟩
              | ok v k =>
                rw [hr] at h
                exact absurd h.1 HF.out
      · have dn : decide ((j : Int) < n0) = false := by simpa using hn
        have HNN : Hid (n0 - (j : Int) ≤ 0) := by show _ ≤ _; omega
        by_cases hf : f' = 0
        · have dg : (f' != 0) = false := by simpa using hf
          have HF := Lib.hid hf
          clear hf
          obtain ⟨x0, x1, x2, xz0, xz1, xz2⟩ := ht0
          obtain ⟨y0, y1, y2, yz0, yz1, yz2⟩ := ht1
          obtain ⟨b1, b2⟩ := HAC.out
          have hb0 := HBW.out
          go_wp2
          go_region
          all_goals
            go_wp2
            refine bodyPost_ret (v := .tuple #[.agg #[.string ⟨s.toArray⟩, .int .i64 tm, .slice p' done.length c'], .int .i64 a', .int .i64 0]) (by simp [results, Tryd.results29, go_sem, x0, x1, x2, y0, y1, y2, hb0]) rfl ?_
            have q : w.heap.size ≤ B := by have := HB.out; omega
            refine ⟨by repeat (first | exact HBB.out | apply Below.drew | refine Below.setCell ?_ (by assumption) _), ?_⟩
            rcases HEV.out a' f' _ done ST.out (.inl HNN.out) with ⟨h, _⟩ | ⟨_, h⟩
            · exact absurd rfl h
            · cases hr : evtR (l.drop 0) with
              | bad E => rw [hr] at h; exact absurd (h.1.symm.trans HF.out) h.2
              | ok ev k =>
                rw [hr] at h
                obtain ⟨_, h2, rfl⟩ := h
                rw [List.drop_zero] at hr
                rw [hr]
                simp only
                rw [h2, Nat.zero_add]
                exact ⟨_, rfl, own_base (own_set (own_set (own_set OWN.out RG01.out) RG01.out) RG01.out) RG3.out⟩
        · have dg : (f' != 0) = true := by simpa using hf
          have HF := Lib.hid hf
          clear hf
          obtain ⟨x0, x1, x2, xz0, xz1, xz2⟩ := ht0
          obtain ⟨b1, b2⟩ := HAC.out
          have hb0 := HBW.out
          go_wp2
          go_region
          all_goals
            go_wp2
            refine bodyPost_ret (v := .tuple #[.agg #[.string ⟨#[]⟩, .int .i64 0, .slice none 0 0], .int .i64 0, .int .i64 f']) (by simp [results, Tryd.results29, go_sem, x0, x1, x2, hb0]) rfl ?_
            have q : w.heap.size ≤ B := by have := HB.out; omega
            refine ⟨by repeat (first | exact HBB.out | apply Below.drew | refine Below.setCell ?_ (by assumption) _), ?_⟩
            rcases HEV.out a' f' _ done ST.out (.inr HF.out) with ⟨h, _⟩ | ⟨_, h⟩
            · exact absurd rfl h
            · cases hr : evtR (l.drop 0) with
              | bad E =>
                rw [hr] at h
                rw [List.drop_zero] at hr
                rw [hr]
                exact ⟨by rw [h.1], h.2⟩
              | ok v k =>
                rw [hr] at h
                exact absurd h.1 HF.out
end Go.Proofs.YtlinpkmfjkcoiaaDoor
