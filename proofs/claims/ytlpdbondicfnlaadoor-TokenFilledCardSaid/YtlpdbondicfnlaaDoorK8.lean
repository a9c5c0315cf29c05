/- The walk of TokenFilled. -/
import Derived.Test.YtlpdbondicfnlaaDoorS10
import Derived.Test.YtlpdbondicfnlaaDoorK7
namespace Go.Proofs.YtlpdbondicfnlaaDoor
open Go Go.RowKit
set_option maxHeartbeats 2000000
set_option linter.unusedVariables false
set_option linter.unusedSimpArgs false
theorem sign_small {j : Nat} (hj : j < 19) {s : List UInt8} (h : sgC[j]? = some (.string ⟨s.toArray⟩)) : s.length ≤ 2 := by
  have hq : j = 0 ∨ j = 1 ∨ j = 2 ∨ j = 3 ∨ j = 4 ∨ j = 5 ∨ j = 6 ∨ j = 7 ∨ j = 8 ∨ j = 9 ∨ j = 10 ∨ j = 11 ∨ j = 12 ∨ j = 13 ∨ j = 14 ∨ j = 15 ∨ j = 16 ∨ j = 17 ∨ j = 18 := by omega
  rcases hq with rfl | rfl | rfl | rfl | rfl | rfl | rfl | rfl | rfl | rfl | rfl | rfl | rfl | rfl | rfl | rfl | rfl | rfl | rfl
  all_goals
    have h2 := Option.some.inj h
    injection h2 with h2
    injection h2 with h2
    have h3 : s = _ := (congrArg Array.toList h2).symm
    subst h3
    decide
theorem plain_cut {k : Int} {s : List UInt8} (h : PlainTok k s) (hl : 60 < s.length) : PlainTok k (s.take 60) := by
  rcases h with ⟨rfl, _, _, h3⟩ | ⟨rfl, _, h2⟩ | ⟨rfl, h1⟩ | ⟨rfl, j, h1, h2⟩
  · omega
  · omega
  · exact .inr (.inr (.inl ⟨rfl, by rw [List.length_take]; omega⟩))
  · have := sign_small h1 h2
    omega
theorem spell_small {k : Int} {s : List UInt8} (h : PlainTok k s) (hl : s.length ≤ 60) : (spellL k s).length ≤ 242 := by
  rcases h with ⟨rfl, _⟩ | ⟨rfl, _⟩ | ⟨rfl, _⟩ | ⟨rfl, _⟩
  · show (if (1 : Int) = 3 then _ else s).length ≤ 242
    rw [if_neg (by decide)]; omega
  · show (if (2 : Int) = 3 then _ else s).length ≤ 242
    rw [if_neg (by decide)]; omega
  · unfold spellL
    rw [if_pos rfl, if_pos (by omega), quoteL_len]
    have := escL_len s
    omega
  · show (if (4 : Int) = 3 then _ else s).length ≤ 242
    rw [if_neg (by decide)]; omega
/-- behind some tokens: the text so far, what it is cut into, the tokens -/
structure FRel (S : List UInt8) (M L : List Tk) : Prop where
  cut : ∀ r, Gap r → scanT 0 [] (S ++ r) = scanT S.length M r
  same : M.map (fun t => (t.1, t.2.1)) = L.map (fun t => (t.1, t.2.1))
  len : S.length ≤ 282 * L.length
theorem FRel.start : FRel [] [] [] := ⟨fun r _ => rfl, rfl, Nat.le_refl _⟩
theorem FRel.next {S : List UInt8} {M L : List Tk} (h : FRel S M L) {F : List UInt8} (hF : Fills F) {k : Int} {s : List UInt8} (hp : PlainTok k s) (hl : s.length ≤ 60) (a : Nat) : ∃ M', FRel (S ++ F ++ spellL k s) M' (L ++ [(k, s, a)]) := by
  refine ⟨M ++ [(k, s, S.length + F.length)], fun r hr => ?_, by rw [List.map_append, List.map_append, h.same]; rfl, ?_⟩
  · obtain ⟨c, t, hc, hb⟩ := hF.head
    rw [List.append_assoc, List.append_assoc, h.cut _ (.inr ⟨c, t ++ (spellL k s ++ r), by rw [hc]; rfl, hb⟩), hF.skip, (plain_good hp).cut _ _ r hr]
    simp [Nat.add_assoc]
  · have h1 := h.len
    have h2 := hF.len
    have h3 := spell_small hp hl
    simp only [List.length_append, List.length_singleton]
    omega
theorem FRel.done {S : List UInt8} {M L : List Tk} (h : FRel S M L) {F : List UInt8} (hF : Fills F) (h8 : L.length ≤ 8) : scanL (S ++ F) = .ok (M ++ [(5, [], S.length + F.length)]) := by
  have h1 := h.len
  have h2 := hF.len
  obtain ⟨c, t, hc, hb⟩ := hF.head
  rw [scanL_small (by rw [List.length_append]; omega), h.cut F (.inr ⟨c, t, hc, hb⟩)]
  have := hF.skip S.length M []
  rw [List.append_nil, scan_nil] at this
  exact this
theorem FRel.mlen {S : List UInt8} {M L : List Tk} (h : FRel S M L) : M.length = L.length := by
  have := congrArg List.length h.same
  simpa using this
theorem FRel.at {S : List UInt8} {M L : List Tk} (h : FRel S M L) (i : Nat) (hi : i < L.length) : ∃ a, M[i]? = some ((L[i]).1, (L[i]).2.1, a) := by
  have hm : i < M.length := by rw [h.mlen]; exact hi
  have := congrArg (fun l => l[i]?) h.same
  simp only [List.getElem?_map, List.getElem?_eq_getElem hm, List.getElem?_eq_getElem hi, Option.map_some, Option.some.injEq, Prod.mk.injEq] at this
  refine ⟨M[i].2.2, ?_⟩
  rw [List.getElem?_eq_getElem hm, ← this.1, ← this.2]
set_option maxRecDepth 100000 in
theorem filled_walk (p : Option Addr) (len cap : Nat) (bp : Option Addr) (bn bc : Nat) (note : ByteArray) (w : World) (he : Errs w) (hlen : len ≤ maxLen) (hbn : bn ≤ maxLen) (hT : ToksIn w p len) (hF : Bys w bp bn) :
    Calls Tryd.prog 6 #[.slice p len cap, .slice bp bn bc, .string note] w fun e w' => e = .returned (.bool true) ∧ Below w.heap.size w w' := by
  obtain ⟨i0, hi, hz0, hz1, hz2⟩ := info_parts infoTok
  have HE := Lib.hid he
  have HT := Lib.hid hT
  have HF := Lib.hid hF
  have HB0 : Hid (Below w.heap.size w w) := Below.refl _ _
  have HFI : Hid (∀ (k : Nat) (hk : k < 256) wx, Below w.heap.size w wx → Calls Tryd.prog 13 #[.int .u8 k, .string note] wx fun e w' => (∃ F : ByteArray, e = .returned (.string F) ∧ Fills F.data.toList) ∧ Below wx.heap.size wx w' ∧ Below w.heap.size w w') := fun k hk wx hx => (filler_any k hk note wx).mono fun e w' ⟨h1, h2⟩ => ⟨h1, h2, hx.trans (h2.mono hx.size)⟩
  clear he hT hF
  have hlm : (len : Int) ≤ 9223372036854775807 := by unfold maxLen at hlen; omega
  go_enter Tryd.func6, Tryd.ntmps6
  go_wp2
  go_loopw [7, 8, 9] (fun lv sv iv wr => ∃ (L M : List Tk) (S : ByteArray), iv = .int .i64 L.length ∧ sv = .string S ∧ L.length ≤ len ∧ L.length ≤ 8 ∧ FRel S.data.toList M L ∧ wr.ownsRow w.heap.size 28 3 lv L.length (tkCells L) ∧ Below w.heap.size w wr) (fun _ _ iv _ => 8 - (intOf iv).toNat)
  case atStart => exact ⟨[], [], ⟨#[]⟩, rfl, rfl, Nat.zero_le _, by simp, FRel.start, World.ownsRow_nil _ _ _ _, HB0.out⟩
  case round =>
    obtain ⟨L, M, S, rfl, rfl, hl1, hl8, hfr, hown, hb⟩ := hrel
    have HFR := Lib.hid hfr
    have HO := Lib.hid hown
    have HB := Lib.hid hb
    have hSl : S.data.toList.length = S.size := by simp
    have hS : (S.size : Int) ≤ 4000 := by have := hfr.len; omega
    clear hfr hown hb hSl
    obtain ⟨n, hn⟩ : ∃ n, n = L.length := ⟨_, rfl⟩
    have HN := Lib.hid hn
    have HO2 : Hid (wr.ownsRow w.heap.size 28 3 u7 n (tkCells L)) := by rw [hn]; exact HO.out
    rw [← hn] at hl1 hl8 ⊢
    clear hn
    by_cases hgo : n < len ∧ n < 8
    · have d1 : decide (n < len) = true := by simp; omega
      have d2 : decide ((n : Int) < 8) = true := by simp; omega
      have v1 : (n : Int) < (len : Int) := by omega
      have v2 : (n : Int) < 8 := by omega
      obtain ⟨b, o, k, s, a, rfl, hs, c0, c1, c2⟩ := (HT.out.below HB.out) n hgo.1
      have HPL : Hid (∀ wx, Below w.heap.size w wx → Calls Tryd.prog 10 #[.agg #[.int .i64 k, .string s, .int .i64 a]] wx fun e w' => (∃ k' s', e = .returned (.agg #[.int .i64 k', .string s', .int .i64 0]) ∧ PlainTok k' s'.data.toList) ∧ Below wx.heap.size wx w' ∧ Below w.heap.size w w') := fun wx hx => (plainest_any k s a hs wx).mono fun e w' ⟨h1, h2⟩ => ⟨h1, h2, hx.trans (h2.mono hx.size)⟩
      go_upto_if 35 with (go_at_call 10; refine (HPL.out _ HB.out).mono ?_; rintro e w1 ⟨⟨k', s', rfl, hpt⟩, hb1, hB1⟩; have hO1 := own3_keep HO2.out hb1; have HPT := Lib.hid hpt; clear hpt; obtain ⟨bz, hbz⟩ : ∃ bz, decide ((60 : Int) < (s'.size : Int)) = bz := ⟨_, rfl⟩; have HBZ := Lib.hid hbz)
      clear hbz
      go_cut [] from 36 to 39 (fun wx => ∃ T : ByteArray, PlainTok k' T.data.toList ∧ T.size ≤ 60 ∧ Tc wx w1.heap.size k' T 0 ∧ wx.ownsRow w.heap.size 28 3 u7 n (tkCells L) ∧ Below w.heap.size w wx)
      case first =>
        have hTc : Tc (w1.alloc (.cells #[.int .i64 k', .string s', .int .i64 0] 28)) w1.heap.size k' s' 0 := ⟨by simp [go_sem], by simp [go_sem], by simp [go_sem], by simp [go_sem], by simp [go_sem], by simp [go_sem]⟩
        cases bz
        · have hz : s'.size ≤ 60 := by have := HBZ.out; simp at this; omega
          go_wp2_with fail
          go_meet
          case rel => exact ⟨s', HPT.out, hz, hTc, World.ownsRow.alloc hO1 _, hB1.alloc hB1.size _⟩
        · have hz : 60 < s'.size := by have := HBZ.out; simp at this; omega
          have hz2 : 60 ≤ s'.size := by omega
          have hOx : (w1.alloc (.cells #[.int .i64 k', .string s', .int .i64 0] 28)).ownsRow w.heap.size 28 3 u7 n (tkCells L) := World.ownsRow.alloc hO1 _
          have hOB : u7.ownBlock ≠ some w1.heap.size := fun e => by have := (World.ownsRow.lt hO1 _ e).2; omega
          have HOB := Lib.hid hOB
          have HOX := Lib.hid hOx
          have HBX := Lib.hid (hB1.alloc hB1.size (.cells #[.int .i64 k', .string s', .int .i64 0] 28))
          clear hOB hOx
          go_wp2_with fail
          go_meet
          case rel =>
            refine ⟨s'.extract 0 60, ?_, by simp; omega, ⟨by simp [go_sem], by simp [go_sem], by simp [go_sem], by simp [go_sem], by simp [go_sem], by simp [go_sem]⟩, World.ownsRow.alloc hO1 _, hB1.alloc hB1.size _⟩
            have := plain_cut HPT.out (by simp; omega)
            rw [ByteArray.data_extract]
            simpa [Array.toList_extract, List.extract_eq_take_drop] using this
      case rest =>
        obtain ⟨T, hpt, hT60, hTc, hown, hbw⟩ := hcut
        obtain ⟨f0, f1, f2, _, _, _⟩ := hTc
        have hcl : w1.heap.size < wc.heap.size := lt_of_cell f0
        have hg := plain_good hpt
        have hss := spell_small hpt (by simpa using hT60)
        obtain ⟨P, hP⟩ : ∃ P : ByteArray, P = ⟨(spellL k' T.data.toList).toArray⟩ := ⟨_, rfl⟩
        have hPl : P.data.toList = spellL k' T.data.toList := by rw [hP]
        have hPz : P.size ≤ 242 := by
          have : P.data.toList.length = P.size := by simp
          rw [← this, hPl]
          exact hss
        have HSP : Hid (∀ wx g c, Below w.heap.size w wx → TokAt wx (some ⟨g, 0, none⟩) [(k', T, 0)] → Calls Tryd.prog 11 #[.slice (some ⟨g, 0, none⟩) 1 c] wx fun e w' => e = .returned (.tuple #[.string P, .int .i64 0]) ∧ Below wx.heap.size wx w' ∧ Below w.heap.size w w') := fun wx g c hx hta => by
          have e1 : outL ([((k', T, 0) : Tok3)].map spl3) = spellL k' T.data.toList := by simp [outL, spl3]
          have := spell_any (some ⟨g, 0, none⟩) c [(k', T, 0)] wx (HE.out.below hx) hta (by simp) (by intro t ht; simp at ht; subst ht; exact ⟨hg.ne5, hg.may⟩) (by rw [e1]; omega)
          rw [e1, ← hP] at this
          exact this.mono fun e w' ⟨h1, h2⟩ => ⟨h1, h2, hx.trans (h2.mono hx.size)⟩
        have HPT2 := Lib.hid hpt
        have HPL2 := Lib.hid hPl
        have HT60 := Lib.hid hT60
        have HBW := Lib.hid hbw
        have HOW := Lib.hid hown
        have hwc : w.heap.size ≤ wc.heap.size := hbw.size
        have hOB : u7.ownBlock ≠ some wc.heap.size := fun e => by have := (World.ownsRow.lt hown _ e).2; omega
        clear hg hss hP hPl hpt hT60 hbw hown
        go_wp2_with fail
        have ha : Below wc.heap.size wc (wc.alloc (.cells #[.int .i64 k', .string T, .int .i64 0] 28)) := (Below.refl _ _).alloc (Nat.le_refl _) _
        refine (HSP.out _ _ _ (HBW.out.alloc hwc _) (fun j hj => by have hj0 : j = 0 := (by simpa using hj); subst hj0; exact ⟨wc.heap.size, 0, rfl, by simp [go_sem], by simp [go_sem], by simp [go_sem]⟩)).mono ?_
        rintro e w2 ⟨rfl, hb2, hB2⟩
        have hO2 := own3_keep (World.ownsRow.alloc HOW.out _) hb2
        have hs2 : wc.heap.size + 1 ≤ w2.heap.size := by have := hb2.size; simpa using this
        have p0 := (hb2.cell (p := ⟨w1.heap.size, 0, none⟩) (by simp; omega)).trans ((ha.cell (p := ⟨w1.heap.size, 0, none⟩) hcl).trans f0)
        have p1 := (hb2.cell (p := ⟨w1.heap.size, 1, none⟩) (by simp; omega)).trans ((ha.cell (p := ⟨w1.heap.size, 1, none⟩) hcl).trans f1)
        have p2 := (hb2.cell (p := ⟨w1.heap.size, 2, none⟩) (by simp; omega)).trans ((ha.cell (p := ⟨w1.heap.size, 2, none⟩) hcl).trans f2)
        have hm1 : n + 1 ≤ maxLen := by unfold maxLen; omega
        have hm2 : (n + 1) * 32 ≤ 140737488355328 := by omega
        have hw2 : w.heap.size ≤ w2.heap.size := hB2.size
        clear ha hOB f0 f1 f2 hb2
        obtain ⟨bl, hbl⟩ : ∃ bl, decide (n < bn) = bl := ⟨_, rfl⟩
        have HBL := Lib.hid hbl
        go_upto_if 55 with (at_builtin; refine wpList_append_lies _ rfl _ _ 23 rfl w.heap.size 28 i0 (.agg #[.int .i64 0, .string ⟨#[]⟩, .int .i64 0]) 3 32 Tryd.underlying23 hi hz0 hz1 hz2 rfl (by decide) _ _ _ rfl (World.ownsRow.alloc hO2 _) ⟨w2.heap.size, 0, none⟩ 1 1 [.int .i64 k', .string T, .int .i64 0] rfl rfl (fun j u h => lit_at _ _ (by simp) _ _ j u h) (ones3 _ _ _) (by decide) hm1 hm2 (by simp; omega) (w2.heap.size + 1) (by simp) ?_; intro g5 cap5 w5 hown5 hgr5 hwh5 hlt5)
        have hb5 : Below w.heap.size w w5 := (hB2.alloc hw2 _).grown hgr5 (by simp; omega) (fun j hj => (World.ownsRow.lt hO2 j hj).1)
        have hown6 : w5.ownsRow w.heap.size 28 3 (.slice (some ⟨g5, 0, none⟩) (n + 1) cap5) (L ++ [(k', T.data.toList, 0)]).length (tkCells (L ++ [(k', T.data.toList, 0)])) := by
          rw [tkCells_snoc, List.length_append, ← show n = _ from HN.out]
          have e : tkV (k', T.data.toList, 0) = [.int .i64 k', .string T, .int .i64 0] := by
            unfold tkV
            rw [show (⟨T.data.toList.toArray⟩ : ByteArray) = T from bytes_ext' (by simp)]
            rfl
          rw [e]
          exact hown5
        have HB5 := Lib.hid hb5
        have HO6 := Lib.hid hown6
        clear hown5 hgr5 hwh5 hlt5 hb5 hown6 hB2 hO2 p0 p1 p2 hbl
        go_cut [13] from 56 to 59 (fun kv wx => ∃ K : Nat, K < 256 ∧ kv = .int .u8 K ∧ wx = w5)
        case first =>
          cases bl
          · go_wp2_with fail
            go_meet
            case rel => exact ⟨4, by omega, rfl, rfl⟩
          · have hil : n < bn := by have := HBL.out; simpa using this
            obtain ⟨b', o', x, rfl, hx, hcell⟩ := (HF.out.below HB5.out) n hil
            have hil2 : (n : Int) < (bn : Int) := by omega
            go_wp2_with fail
            go_meet
            case rel => exact ⟨x, hx, rfl, rfl⟩
        case rest =>
          obtain ⟨K, hK, rfl, rfl⟩ := hcut
          go_wp2_with fail
          refine (HFI.out K hK _ HB5.out).mono ?_
          rintro e w6 ⟨⟨F, rfl, hFl⟩, hb6, hB6⟩
          have hFz : F.size ≤ 40 := by
            have h1 : F.data.toList.length = F.size := by simp
            have h2 := hFl.len
            omega
          obtain ⟨M', hM'⟩ := HFR.out.next hFl HPT2.out (by have := HT60.out; simpa using this) 0
          have HM' := Lib.hid hM'
          have HO7 := Lib.hid (own3_keep HO6.out hb6)
          have HB7 := Lib.hid hB6
          clear hM' hFl hb6 hB6
          go_wp2
          go_roundw
          case rel => exact ⟨L ++ [(k', T.data.toList, 0)], M', S ++ F ++ P, by rw [List.length_append, ← show n = _ from HN.out]; go_num, rfl, by rw [List.length_append, ← show n = _ from HN.out]; simp; omega, by rw [List.length_append, ← show n = _ from HN.out]; simp; omega, by
            have := HM'.out
            rw [← HPL2.out] at this
            simpa [ByteArray.data_append] using this, HO7.out, HB7.out⟩
          case measure => simp [intOf]; omega
    · have hd : decide (n < len) = false ∨ (decide (n < len) = true ∧ decide ((n : Int) < 8) = false) := by
        by_cases h : n < len
        · right; exact ⟨by simp; omega, by simp; omega⟩
        · left; simp; omega
      clear hgo
      obtain ⟨q, c, hu, hTA⟩ := own_tokAt HO.out
      rw [← show n = _ from HN.out] at hu
      subst hu
      have hLm : (L.map toT).length = n := by rw [List.length_map]; exact HN.out.symm
      have HTA := Lib.hid hTA
      have HLM := Lib.hid hLm
      clear hTA hLm
      rcases hd with d1 | ⟨d1, d2⟩
      all_goals
        go_wp2_with fail
        refine (HFI.out 3 (by omega) _ HB.out).mono ?_
        rintro e w1 ⟨⟨F, rfl, hFl⟩, hb1, hB1⟩
        have hFz : F.size ≤ 40 := by
          have h1 : F.data.toList.length = F.size := by simp
          have h2 := hFl.len
          omega
        have hdone := HFR.out.done hFl (by rw [← show n = _ from HN.out]; exact hl8)
        obtain ⟨M2, hM2⟩ : ∃ M2, M2 = M ++ [(5, [], S.data.toList.length + F.data.toList.length)] := ⟨_, rfl⟩
        have hM2l : M2.length = n + 1 := by rw [hM2, List.length_append, HFR.out.mlen, ← show n = _ from HN.out]; rfl
        rw [← hM2] at hdone
        have HSC : Hid (∀ wx, Below w.heap.size w wx → Calls Tryd.prog 9 #[.string (S ++ F)] wx fun e w' => (∃ g cap, e = .returned (.tuple #[.slice (some ⟨g, 0, none⟩) (n + 1) cap, .int .i64 0, .int .i64 0]) ∧ Lie w' g M2) ∧ Below wx.heap.size wx w' ∧ Below w.heap.size w w') := fun wx hx => by
          have := scan_ok_at (S ++ F) M2 (by intro h; rw [h] at hM2l; cases hM2l) (by simpa [ByteArray.data_append] using hdone) w HE.out wx hx
          rw [hM2l] at this
          exact this
        have HM2 := Lib.hid hM2
        have HM2L := Lib.hid hM2l
        clear hM2 hM2l hdone hFl
        go_wp2_with fail
        refine (HSC.out _ hB1).mono ?_
        rintro e w2 ⟨⟨g, cap2, rfl, hL2⟩, hb2, hB2⟩
        have hAL : Calls Tryd.prog 12 #[.slice q n c, .slice (some ⟨g, 0, none⟩) (n + 1) cap2] w2 fun e w' => e = .returned (.bool true) ∧ Below w2.heap.size w2 w' := by
          have := alike_any q (some ⟨g, 0, none⟩) c cap2 (L.map toT) (M2.map toT) w2 (HTA.out.below (hb1.trans (hb2.mono hb1.size))) (lie_tokAt hL2) (by rw [List.length_map, List.length_map, HM2L.out, ← show n = _ from HN.out]) (by rw [HLM.out]; omega)
            (fun i hi => by
              have hi' : i < L.length := by simpa using hi
              obtain ⟨a, ha⟩ := HFR.out.at i hi'
              have ha2 : M2[i]? = some (L[i].1, L[i].2.1, a) := by rw [HM2.out, List.getElem?_append_left (by rw [HFR.out.mlen]; exact hi')]; exact ha
              exact ⟨toT L[i], toT (L[i].1, L[i].2.1, a), by rw [List.getElem?_map, List.getElem?_eq_getElem hi']; rfl, by rw [List.getElem?_map, ha2]; rfl, rfl, rfl⟩)
            (by
              have h5 : M2[L.length]? = some (5, [], S.data.toList.length + F.data.toList.length) := by rw [HM2.out, ← HFR.out.mlen]; simp
              have h6 : (M2.map toT)[(L.map toT).length]? = some (toT (5, [], S.data.toList.length + F.data.toList.length)) := by rw [List.getElem?_map, List.length_map, h5]; rfl
              have h7 : (L.map toT).length < (M2.map toT).length := by rw [List.length_map, List.length_map, HM2L.out, ← show n = _ from HN.out]; omega
              rw [List.getElem?_eq_getElem h7] at h6
              rw [Option.some.inj h6]
              exact ⟨rfl, rfl⟩)
          rw [HLM.out, List.length_map, HM2L.out] at this
          exact this
        have HB2 := Lib.hid hB2
        clear hL2 hb1 hb2 hB1 hB2
        go_wp2_with fail
        refine hAL.mono ?_
        rintro e w3 ⟨rfl, hb3⟩
        have HB3 := Lib.hid (HB2.out.trans (hb3.mono HB2.out.size))
        clear hb3 hAL
        go_wp2
        go_ret
        exact ⟨rfl, HB3.out⟩
end Go.Proofs.YtlpdbondicfnlaaDoor
