/- The walk of the reader's event. -/
import Derived.Test.YtlinpkmfjkcoiaaDoorR7
import Derived.LoopTactic
import Derived.Deep.RegionLaw
import Derived.Deep.AppendLies
namespace Go.Proofs.YtlinpkmfjkcoiaaDoor
open Go Go.RowKit
set_option maxHeartbeats 8000000
set_option linter.unusedVariables false
set_option linter.unusedSimpArgs false
def EvRet (w : World) (R : Nat) (sv : Value) (l : List UInt8) (a : Nat) (f : Int) (e : Ending) (w' : World) : Prop :=
  ∃ (ty : ByteArray) (tm : Int) (vl : List V4) (v : Value) (a' : Nat) (f' : Int), e = .returned (.agg #[.string ty, .int .i64 tm, v]) ∧ w'.ownsRow w.heap.size 96 4 v vl.length (cells4 vl) ∧ After w w' R sv l.length a' f' ∧ Came a a' f f' (evtR (l.drop a)) (· = ⟨ty, tm, vl⟩)
theorem own_base {w : World} {B B' : Nat} {v : Value} {n : Nat} {xs : List Value} (h : w.ownsRow B 96 4 v n xs) (hB : B' ≤ B) : w.ownsRow B' 96 4 v n xs := by
  refine ⟨h.1, ?_⟩
  rcases h.2 with h2 | ⟨g, cap, cur, e, hg, h2⟩
  · exact .inl h2
  · exact .inr ⟨g, cap, cur, e, Nat.le_trans hB hg, h2⟩
theorem After.undrew {w w' : World} {R : Nat} {sv : Value} {n a : Nat} {f : Int} (h : After w.drew w' R sv n a f) : After w w' R sv n a f := ⟨⟨h.g.os, h.g.tape, h.g.output, h.g.size, h.g.block⟩, h.r, h.le⟩
theorem ones4 (k n : Int) (s : ByteArray) (b : Bool) : ∀ u ∈ [Value.int .i64 k, .int .i64 n, .string s, .bool b], u.oneCell' = true := by
  intro u hu
  simp only [List.mem_cons, List.not_mem_nil, or_false] at hu
  rcases hu with rfl | rfl | rfl | rfl <;> rfl
theorem Three.grown {w w' : World} {b : Nat} {s : ByteArray} {t : Int} {v : Value} (h : Three w b s t v) {row : Option Nat} (hg : w.grownBy w' row) (hr : some b ≠ row) : Three w' b s t v := by
  have e := hg.block b (lt_of_cell h.c0) hr
  exact ⟨(World.cell?_of_block (a := ⟨b, 0, none⟩) e).trans h.c0, (World.cell?_of_block (a := ⟨b, 1, none⟩) e).trans h.c1, (World.cell?_of_block (a := ⟨b, 2, none⟩) e).trans h.c2, (World.frozen?_of_block (a := ⟨b, 0, none⟩) e).trans h.z0, (World.frozen?_of_block (a := ⟨b, 1, none⟩) e).trans h.z1, (World.frozen?_of_block (a := ⟨b, 2, none⟩) e).trans h.z2⟩
theorem own_not {w : World} {B : Nat} {v : Value} {n : Nat} {xs : List Value} (h : w.ownsRow B 96 4 v n xs) {b : Nat} (hb : b < B) : some b ≠ v.ownBlock := by
  intro e
  rcases h.2 with ⟨rfl, _⟩ | ⟨g, cap, cur, rfl, hgB, _⟩
  · cases e
  · simp only [Value.ownBlock, Option.some.injEq] at e
    omega
theorem own_from {w : World} {B : Nat} {v : Value} {n : Nat} {xs : List Value} (h : w.ownsRow B 96 4 v n xs) : ∀ k, v.ownBlock = some k → B ≤ k := fun k e => Nat.le_of_not_lt fun hk => own_not h hk e.symm
/-- a value, part by part -/
def ValX (w : World) (R : Nat) (sv : Value) (l : List UInt8) (a : Nat) (f : Int) (e : Ending) (w' : World) : Prop :=
  ∃ (vk vn : Int) (vs : ByteArray) (vb : Bool) (a' : Nat) (f' : Int), e = .returned (.agg #[.int .i64 vk, .int .i64 vn, .string vs, .bool vb]) ∧ After w w' R sv l.length a' f' ∧ Came a a' f f' (valR (l.drop a)) (· = ⟨vk, vn, vs, vb⟩)
theorem ValX.of {w : World} {R : Nat} {sv : Value} {l : List UInt8} {a : Nat} {f : Int} {e : Ending} {w' : World} (h : Val w R sv l a f e w') : ValX w R sv l a f e w' := by
  obtain ⟨⟨k, n, s, b⟩, a', f', h1, h2, h3⟩ := h
  exact ⟨k, n, s, b, a', f', h1, h2, h3⟩
/-- the head of the loop over the values -/
structure EvLoop (w : World) (R : Nat) (sv : Value) (l : List UInt8) (g0 g1 : Nat) (s : ByteArray) (tm : Int) (a4 : Nat) (f4 n0 : Int) (wr : World) (n : Int) (done : List V4) (p' : Option Addr) (c' a' : Nat) (f' : Int) : Prop where
  n64 : I64 n
  af : After w wr R sv l.length a' f'
  t0 : Three wr g0 ⟨#[]⟩ 0 (.slice none 0 0)
  t1 : Three wr g1 s tm (.slice p' done.length c')
  own : wr.ownsRow (g1 + 1) 96 4 (.slice p' done.length c') done.length (cells4 done)
  st : ValsSt l a4 f4 n0 done n a' f'
set_option maxRecDepth 100000 in
theorem event_r (R : Nat) (p : Option Addr) (c : Nat) (l : List UInt8) (a : Nat) (f : Int) (w : World) (h : Lies w R p c l a f) (hK : Kw w) (h0R : 0 ≠ R) :
    Calls Tryd.prog 49 #[.pointer (some ⟨R, 0, none⟩)] w (EvRet w R (.slice p l.length c) l a f) := by
  have H := Lib.hid h
  have HK := Lib.hid hK
  have hR := h.rd.lt
  have HRL := Lib.hid hR
  obtain ⟨i0, hi, hz0, hz1, hz2⟩ := info_parts infoVal
  have HT : Hid (∀ wx a' f' lo hi, 0 ≤ lo → Lies wx R p c l a' f' → Calls Tryd.prog 80 #[.pointer (some ⟨R, 0, none⟩), .int .i64 lo, .int .i64 hi] wx (Txt wx R (.slice p l.length c) l a' f' lo hi)) := fun wx a' f' lo hi h0 h1 => text_r R p c l a' f' lo hi h0 wx h1
  have HN : Hid (∀ wx a' f' lo hi, Lies wx R p c l a' f' → Calls Tryd.prog 81 #[.pointer (some ⟨R, 0, none⟩), .int .i64 lo, .int .i64 hi] wx (NumIn wx R (.slice p l.length c) l a' f' lo hi)) := fun wx a' f' lo hi h1 => numberWithin_any R p c l a' f' lo hi wx h1
  have HV : Hid (∀ wx a' f', Lies wx R p c l a' f' → Calls Tryd.prog 82 #[.pointer (some ⟨R, 0, none⟩)] wx (Val wx R (.slice p l.length c) l a' f')) := fun wx a' f' h1 => value_r R p c l a' f' wx h1
  have hA0 := ((After.refl h.rd h.le).alloc (Obj.cells #[.string ⟨#[]⟩, .int .i64 0, .slice none 0 0] 24)).alloc (Obj.cells #[.string ⟨#[]⟩, .int .i64 0, .slice none 0 0] 24)
  clear h hK
  go_enter Tryd.func49, Tryd.ntmps49
  go_upto_region 2 with fail
  have HA0 := Lib.hid hA0
  have T0 : Hid (Three ((w.alloc (Obj.cells #[.string ⟨#[]⟩, .int .i64 0, .slice none 0 0] 24)).alloc (Obj.cells #[.string ⟨#[]⟩, .int .i64 0, .slice none 0 0] 24)) w.heap.size ⟨#[]⟩ 0 (.slice none 0 0)) := (Three.new w ⟨#[]⟩ 0 none 0 0).below ((Below.refl _ _).alloc (Nat.le_refl _) _)
  have T1 : Hid (Three ((w.alloc (Obj.cells #[.string ⟨#[]⟩, .int .i64 0, .slice none 0 0] 24)).alloc (Obj.cells #[.string ⟨#[]⟩, .int .i64 0, .slice none 0 0] 24)) (w.heap.size + 1) ⟨#[]⟩ 0 (.slice none 0 0)) := by
    have := Three.new (w.alloc (Obj.cells #[.string ⟨#[]⟩, .int .i64 0, .slice none 0 0] 24)) ⟨#[]⟩ 0 none 0 0
    simp at this
    show Three _ _ _ _ _
    exact this
  have S0 : Hid (w.heap.size + 1 < ((w.alloc (Obj.cells #[.string ⟨#[]⟩, .int .i64 0, .slice none 0 0] 24)).alloc (Obj.cells #[.string ⟨#[]⟩, .int .i64 0, .slice none 0 0] 24)).heap.size) := by show _ < _; simp
  obtain ⟨w0, hw0⟩ : ∃ x, x = (w.alloc (Obj.cells #[.string ⟨#[]⟩, .int .i64 0, .slice none 0 0] 24)).alloc (Obj.cells #[.string ⟨#[]⟩, .int .i64 0, .slice none 0 0] 24) := ⟨_, rfl⟩
  rw [← hw0] at HA0 T0 T1 S0 ⊢
  obtain ⟨g0, hg0⟩ : ∃ g0, g0 = w.heap.size := ⟨_, rfl⟩
  have HG0 := Lib.hid hg0
  rw [← hg0] at T0 T1 S0 hR ⊢
  obtain ⟨g1, hg1⟩ : ∃ g1, g1 = g0 + 1 := ⟨_, rfl⟩
  have HG1 := Lib.hid hg1
  rw [← hg1] at T1 S0 ⊢
  have r0 : g0 ≠ R := by omega
  have r1 : g1 ≠ R := by omega
  have r01 : g0 ≠ g1 := by omega
  have r10 : g1 ≠ g0 := by omega
  have RG1 : Hid (R < g1 + 1) := by show _ < _; omega
  have RG01 : Hid (g0 < g1 + 1) := by show _ < _; omega
  have RG2 : Hid (w.heap.size ≤ g1 + 1) := by show _ ≤ _; omega
  have Q0 : Hid (w.heap.size ≤ g0) := by show _ ≤ _; omega
  have Q1 : Hid (w.heap.size ≤ g1) := by show _ ≤ _; omega
  clear hw0 hg0 hg1 hA0
  go_wp2_with fail
  refine (HT.out w0 a f 1 32 (by omega) (H.out.after HA0.out)).mono ?_
  rintro e w1 ⟨s, a1, f1, rfl, hsz, haf1, hca1⟩
  have HA1 := Lib.hid (HA0.out.trans haf1)
  have HC1 := Lib.hid hca1
  have T0' := Lib.hid (T0.out.keeps haf1.g r0)
  have T1' := Lib.hid (T1.out.keeps haf1.g r1)
  clear haf1 hca1
  obtain ⟨y0, y1, y2, yz0, yz1, yz2⟩ := T1'.out
  go_upto_region 3 with fail
  have HA2 := Lib.hid (HA1.out.set Q1.out HRL.out 0 (.string ⟨s.toArray⟩))
  have T0a := Lib.hid (T0'.out.other (u := .string ⟨s.toArray⟩) (o := 0) r01)
  have T1a := Lib.hid (T1'.out.ty ⟨s.toArray⟩)
  clear y0 y1 y2 yz0 yz1 yz2
  obtain ⟨w2, hw2⟩ : ∃ x, x = w1.setCell ⟨g1, 0, none⟩ (.string ⟨s.toArray⟩) := ⟨_, rfl⟩
  rw [← hw2] at HA2 T0a T1a ⊢
  clear hw2
  obtain ⟨y0, y1, y2, yz0, yz1, yz2⟩ := T1a.out
  have HK2 := Lib.hid (HK.out.keeps HA2.out.g h0R)
  go_wp2_with fail
  refine (name_any _ _ HK2.out).mono ?_
  rintro e w3 ⟨rfl, hb3⟩
  have HA3 := Lib.hid (HA2.out.below hb3)
  have T0b := Lib.hid (T0a.out.below hb3)
  have T1b := Lib.hid (T1a.out.below hb3)
  clear hb3 y0 y1 y2 yz0 yz1 yz2
  go_wp2_with fail
  refine (demand_dem R _ l.length a1 f1 _ 31 w3 HA3.out.r HA3.out.le).mono ?_
  rintro e w4 ⟨rfl, f2, haf4, hd1, hd2, hd3⟩
  have HA4 := Lib.hid (HA3.out.trans haf4)
  have HC4 : Hid (Came a a1 f f2 (((text 1 32).only nameL) (l.drop a)) (· = s)) := HC1.out.only nameL hd1 hd2 hd3
  have T0c := Lib.hid (T0b.out.keeps haf4.g r0)
  have T1c := Lib.hid (T1b.out.keeps haf4.g r1)
  clear haf4 hd1 hd2 hd3
  go_wp2_with fail
  refine (HN.out w4 a1 f2 0 4611686018427387904 (H.out.after HA4.out)).mono ?_
  rintro e w5 ⟨tm, a3, f3, rfl, hi64, haf5, hca5⟩
  have HA5 := Lib.hid (HA4.out.trans haf5)
  have HC5 := Lib.hid hca5
  have T0d := Lib.hid (T0c.out.keeps haf5.g r0)
  have T1d := Lib.hid (T1c.out.keeps haf5.g r1)
  clear haf5 hca5
  obtain ⟨y0, y1, y2, yz0, yz1, yz2⟩ := T1d.out
  go_upto_region 5 with fail
  have HA6 := Lib.hid (HA5.out.set Q1.out HRL.out 1 (.int .i64 tm))
  have T0e := Lib.hid (T0d.out.other (u := .int .i64 tm) (o := 1) r01)
  have T1e := Lib.hid (T1d.out.tm tm)
  clear y0 y1 y2 yz0 yz1 yz2
  obtain ⟨w6, hw6⟩ : ∃ x, x = w5.setCell ⟨g1, 1, none⟩ (.int .i64 tm) := ⟨_, rfl⟩
  rw [← hw6] at HA6 T0e T1e ⊢
  clear hw6
  go_wp2_with fail
  refine (HN.out w6 a3 f3 0 16 (H.out.after HA6.out)).mono ?_
  rintro e w7 ⟨n0, a4, f4, rfl, hi64', haf7, hca7⟩
  have HA7 := Lib.hid (HA6.out.trans haf7)
  have HC7 := Lib.hid hca7
  have T0f := Lib.hid (T0e.out.keeps haf7.g r0)
  have T1f := Lib.hid (T1e.out.keeps haf7.g r1)
  have HI := Lib.hid hi64'
  have HN0 : Hid (f4 = 0 → 0 ≤ n0 ∧ n0 ≤ 16) := by
    intro h0
    rcases HC7.out with ⟨h1, h2⟩ | ⟨h1, h2⟩
    · exact absurd (h2.symm.trans h0) h1
    · cases hr : numW 0 16 (l.drop a3) with
      | bad E => rw [hr] at h2; exact absurd (h2.1.symm.trans h0) h2.2
      | ok v k =>
        rw [hr] at h2
        obtain ⟨_, _, rfl⟩ := h2
        exact ((numW_form 0 16 (by omega) (by omega)).back _ _ _ hr).1
  clear haf7 hca7 hi64'
  go_wp2
  go_loopw [4] (fun nv wr => ∃ (n : Int) (done : List V4) (p' : Option Addr) (c' a' : Nat) (f' : Int), nv = .int .i64 n ∧ EvLoop w R (.slice p l.length c) l g0 g1 ⟨s.toArray⟩ tm a4 f4 n0 wr n done p' c' a' f') (fun nv _ => (intOf nv).toNat)
  case atStart => exact ⟨n0, [], none, 0, a4, f4, rfl, HI.out, HA7.out, T0f.out, T1f.out, World.ownsRow_nil _ _ _ _, ValsSt.start l a4 f4 n0 (fun h => (HN0.out h).1)⟩
  case round =>
    obtain ⟨n, done, p', c', a', f', rfl, hn64, haf, ht0, ht1, hown, hst⟩ := hrel
    obtain ⟨hn1, hn2⟩ := hn64
    have AF := Lib.hid haf
    have TT0 := Lib.hid ht0
    have TT1 := Lib.hid ht1
    have OWN := Lib.hid hown
    have ST := Lib.hid hst
    have b0 := haf.r.c2
    clear haf hst hown
    by_cases hn : 0 < n
    · have dn : decide (0 < n) = true := by simpa using hn
      by_cases hf : f' = 0
      · have df : (f' == 0) = true := by simpa using hf
        have HF := Lib.hid hf
        clear hf
        go_wp2
        have hd16 : done.length + 1 ≤ 16 := by
          have h1 := ST.out.few HF.out
          have h2 : f4 = 0 := by
            cases ST.out with
            | on h0 => exact h0
            | off h1 => exact absurd HF.out h1
          have := HN0.out h2
          omega
        have hm1 : done.length + 1 ≤ maxLen := by unfold maxLen; omega
        have hm2 : (done.length + 1) * 40 ≤ 140737488355328 := by omega
        obtain ⟨y0, y1, y2, yz0, yz1, yz2⟩ := ht1
        have HVX : Hid (∀ wx, After wr wx R (.slice p l.length c) l.length a' f' → Calls Tryd.prog 82 #[.pointer (some ⟨R, 0, none⟩)] wx (ValX wx R (.slice p l.length c) l a' f')) := fun wx h1 => (HV.out wx a' f' (H.out.after (AF.out.trans h1))).mono fun e w' h => ValX.of h
        go_region_law (first | (refine step_append_lies _ rfl _ _ 22 rfl (g1 + 1) 96 i0 (.agg #[.int .i64 0, .int .i64 0, .string ⟨#[]⟩, .bool false]) 4 40 Tryd.underlying22 hi hz0 hz1 hz2 rfl (by decide) (.slice p' done.length c') done.length (cells4 done) rfl (OWN8.out.alloc _) ⟨w8.heap.size, 0, none⟩ 1 1 [.int .i64 vk, .int .i64 vn, .string vs, .bool vb] rfl rfl (fun j u h => lit_cells w8 _ _ j u h) (ones4 vk vn vs vb) (by decide) hm1 hm2 (HB8.out _) (w8.heap.size + 1) (by simp) ?_; intro g cap w9 hown9 hgrow9 hwhere9 hlt9; have T9 := Lib.hid ((T8.out.below ((Below.refl _ _).alloc (Nat.le_refl _) _)).grown hgrow9 (own_not OWN8.out (Nat.lt_succ_self _))); have T09 := Lib.hid ((T08.out.below ((Below.refl _ _).alloc (Nat.le_refl _) _)).grown hgrow9 (own_not OWN8.out RG01.out)); have AF9 := Lib.hid (((AF.out.trans HAF8.out).alloc _).grown hgrow9 HRL.out (fun k hk => Nat.le_trans RG2.out (own_from OWN8.out k hk))); have HOWN9 := Lib.hid hown9; clear hown9 hgrow9 hwhere9 hlt9; obtain ⟨x0, x1, x2, xz0, xz1, xz2⟩ := T9.out) | (go_simp; go_at_call 82; refine (HVX.out wr.drew (After.refl AF.out.r AF.out.le).drew).mono ?_; rintro e w8 ⟨vk, vn, vs, vb, a8, f8, rfl, haf8, hca8⟩; have HG8 : Hid (g1 < w8.heap.size) := Nat.lt_of_lt_of_le (lt_of_cell TT1.out.c0) haf8.undrew.g.size; have HAF8 := Lib.hid haf8.undrew; have HCA8 := Lib.hid hca8; have T8 := Lib.hid (TT1.out.keeps haf8.undrew.g r1); have T08 := Lib.hid (TT0.out.keeps haf8.undrew.g r0); have OWN8 := Lib.hid (own_keeps OWN.out haf8.undrew.g RG1.out); have HB8 : Hid (∀ o : Obj, g1 + 1 ≤ (w8.alloc o).heap.size) := fun o => (by have := HG8.out; simp; omega); clear haf8 hca8; have g8 := HG8.out; obtain ⟨q0, q1, q2, qz0, qz1, qz2⟩ := T8.out))
        all_goals
          go_wp2
          go_roundw
          case rel =>
            refine ⟨n - 1, done ++ [⟨vk, vn, vs, vb⟩], some ⟨g, 0, none⟩, cap, a8, f8, by first | rfl | go_num, ?_⟩
            have T0x := T09.out.other (u := .slice (some ⟨g, 0, none⟩) (done.length + 1) cap) (o := 2) r01
            have T1x := T9.out.vs (.slice (some ⟨g, 0, none⟩) (done.length + 1) cap)
            have OX := own_set (b := g1) (o := 2) (u := .slice (some ⟨g, 0, none⟩) (done.length + 1) cap) HOWN9.out (Nat.lt_succ_self _)
            have AX := AF9.out.set Q1.out HRL.out 2 (.slice (some ⟨g, 0, none⟩) (done.length + 1) cap)
            have e : (done ++ [(⟨vk, vn, vs, vb⟩ : V4)]).length = done.length + 1 := by simp
            refine ⟨by unfold I64; omega, AX, T0x, ?_, ?_, ST.out.step hn HF.out HCA8.out⟩
            · rw [e]; exact T1x
            · rw [e, cells4_snoc]; exact OX
          case measure => simp [intOf]; omega
      · have df : (f' == 0) = false := by simpa using hf
        have HF := Lib.hid hf
        clear hf
        obtain ⟨y0, y1, y2, yz0, yz1, yz2⟩ := ht1
        obtain ⟨x0, x1, x2, xz0, xz1, xz2⟩ := ht0
        go_wp2
        refine bodyPost_ret (v := .agg #[.string ⟨s.toArray⟩, .int .i64 tm, .slice p' done.length c']) (by simp [results, Tryd.results49, go_sem, y0, y1, y2, x0, x1, x2]) rfl ?_
        exact ⟨⟨s.toArray⟩, tm, done, _, a', f', rfl, own_base (own_set (own_set (own_set OWN.out RG01.out) RG01.out) RG01.out) RG2.out, ((AF.out.set Q0.out HRL.out 0 _).set Q0.out HRL.out 1 _).set Q0.out HRL.out 2 _, HC4.out.andThen (HC5.out.andThen (HC7.out.andThen (ST.out.done (.inr HF.out)).map))⟩
    · have dn : decide (0 < n) = false := by simpa using hn
      obtain ⟨y0, y1, y2, yz0, yz1, yz2⟩ := ht1
      obtain ⟨x0, x1, x2, xz0, xz1, xz2⟩ := ht0
      go_wp2
      refine bodyPost_ret (v := .agg #[.string ⟨s.toArray⟩, .int .i64 tm, .slice p' done.length c']) (by simp [results, Tryd.results49, go_sem, y0, y1, y2, x0, x1, x2]) rfl ?_
      exact ⟨⟨s.toArray⟩, tm, done, _, a', f', rfl, own_base (own_set (own_set (own_set OWN.out RG01.out) RG01.out) RG01.out) RG2.out, ((AF.out.set Q0.out HRL.out 0 _).set Q0.out HRL.out 1 _).set Q0.out HRL.out 2 _, HC4.out.andThen (HC5.out.andThen (HC7.out.andThen (ST.out.done (.inl (by omega))).map))⟩
end Go.Proofs.YtlinpkmfjkcoiaaDoor
