/- Contract of token.Spell, of any tokens. Contract of the document's own answer's Spell, of any tokens. -/
import Derived.Test.YtdafnkfnaknoiaaDoorT17
import Derived.Test.YtdafnkfnaknoiaaDoorT16
namespace Go.Proofs.YtdafnkfnaknoiaaDoor
open Go Go.RowKit
set_option maxHeartbeats 4000000
set_option linter.unusedVariables false
set_option linter.unusedSimpArgs false
attribute [local go_sem ↓] run_eql_T run_neq_T
set_option maxRecDepth 100000 in
theorem spell_all (p : Option Addr) (c : Nat) (L : List Tok3) (w : World) (he : Errs w) (hL : TokAt w p L) (hLen : L.length ≤ 4294967296) :
    Calls Tryd.prog 11 #[.slice p L.length c] w fun e w' => e = .returned (.tuple #[.string ⟨(speltT L).toArray⟩, .int .i64 (speltE L)]) ∧ Below w.heap.size w w' := by
  obtain ⟨i0, hi, hz0, hz1, hz2⟩ := info_parts infoByte
  have HE := Lib.hid he
  have HTA := Lib.hid hL
  have HB0 : Hid (Below w.heap.size w w) := Below.refl _ _
  obtain ⟨n, hn⟩ : ∃ n, n = L.length := ⟨_, rfl⟩
  have HN := Lib.hid hn
  rw [← hn] at hLen ⊢
  clear he hL hn
  go_enter Tryd.func11, Tryd.ntmps11
  go_wp2
  go_loopw [12] (fun iv wr => ∃ k : Nat, k ≤ n ∧ iv = .int .i64 k ∧ Below w.heap.size w wr ∧ ∀ j (h : j < L.length), j < k → OkAt L j h) (fun iv _ => n - (intOf iv).toNat)
  case atStart => exact ⟨0, Nat.zero_le _, rfl, HB0.out, fun j _ h => absurd h (Nat.not_lt_zero _)⟩
  case round =>
    obtain ⟨k, hk, rfl, hb, hall⟩ := hrel
    have HB := Lib.hid hb
    have HALL := Lib.hid hall
    clear hb hall
    by_cases hlt : k < n
    · have hkL : k < L.length := by rw [← show n = _ from HN.out]; exact hlt
      obtain ⟨b, o, rfl, c0, c1, c2⟩ := (HTA.out.below HB.out) k hkL
      obtain ⟨⟨tk, ts, ta⟩, ht⟩ : ∃ t, t = L[k] := ⟨_, rfl⟩
      have HT := Lib.hid ht
      rw [← ht] at c0 c1 c2
      obtain ⟨M, hM⟩ : ∃ M, M = mayB tk ts := ⟨_, rfl⟩
      have HM : Hid (∀ wx, Below w.heap.size w wx → Calls Tryd.prog 22 #[.agg #[.int .i64 tk, .string ts, .int .i64 ta]] wx fun e w' => e = .returned (.bool M) ∧ Below wx.heap.size wx w' ∧ Below w.heap.size w w') := fun wx hx => by
        refine (may_any tk ts ta wx (HE.out.below hx)).mono ?_
        rintro e w' ⟨rfl, hb⟩
        exact ⟨by rw [hM], hb, hx.trans (hb.mono hx.size)⟩
      have HMM := Lib.hid hM
      have v1 : (k : Int) < (n : Int) := by omega
      have v2 : (1 : Int) ≤ (n : Int) := by omega
      have v3 : (n : Int) ≤ 4294967296 := by omega
      have hB1 := fun o => HB.out.alloc HB.out.size o
      obtain ⟨q, hq⟩ : ∃ q, (tk == 5) = q := ⟨_, rfl⟩
      obtain ⟨l, hl⟩ : ∃ l, ((k : Int) == (n : Int) - 1) = l := ⟨_, rfl⟩
      clear ht hM
      cases M
      · have hbad := spelt_bad (allMay_false k hkL (fun h => by
          have h1 := h.1
          rw [← show _ = L[k] from HT.out] at h1
          exact absurd (HMM.out.trans h1) (by decide)))
        have HBAD := Lib.hid hbad
        clear hbad
        go_wp2_with (go_at_call 22; refine (HM.out _ (hB1 _)).mono ?_; rintro e w1 ⟨rfl, hb1, hB2⟩; have f0 : w1.cell? ⟨wr.heap.size, 0, none⟩ = some (.int .i64 tk) := (hb1.cell (p := ⟨wr.heap.size, 0, none⟩) (by simp)).trans (by simp [go_sem]))
        go_ret2
        rw [HBAD.out.1, HBAD.out.2]
        exact ⟨rfl, hB2⟩
      · cases q
        · have HNX : Hid (∀ j (h : j < L.length), j < k + 1 → OkAt L j h) := fun j h hj => by
            rcases Nat.lt_or_eq_of_le (Nat.le_of_lt_succ hj) with h1 | h1
            · exact HALL.out j h h1
            · subst h1
              refine ⟨by rw [← show _ = L[j] from HT.out]; exact HMM.out.symm, fun h5 => ?_⟩
              rw [← show _ = L[j] from HT.out] at h5
              have : tk = 5 := h5
              rw [this] at hq
              cases hq
          go_wp2_with (go_at_call 22; refine (HM.out _ (hB1 _)).mono ?_; rintro e w1 ⟨rfl, hb1, hB2⟩; have f0 : w1.cell? ⟨wr.heap.size, 0, none⟩ = some (.int .i64 tk) := (hb1.cell (p := ⟨wr.heap.size, 0, none⟩) (by simp)).trans (by simp [go_sem]))
          go_roundw
          case rel => exact ⟨k + 1, by omega, by go_num, hB2, HNX.out⟩
          case measure => simp [intOf]; omega
        · have hq5 : tk = 5 := by simpa using hq
          cases l
          · have hbad := spelt_bad (allMay_false k hkL (fun h => by
              have h1 := h.2 (by rw [← show _ = L[k] from HT.out]; exact hq5)
              rw [← show n = _ from HN.out] at h1
              rw [beq_eq_false_iff_ne] at hl
              omega))
            have HBAD := Lib.hid hbad
            clear hbad hq5
            go_wp2_with (go_at_call 22; refine (HM.out _ (hB1 _)).mono ?_; rintro e w1 ⟨rfl, hb1, hB2⟩; have f0 : w1.cell? ⟨wr.heap.size, 0, none⟩ = some (.int .i64 tk) := (hb1.cell (p := ⟨wr.heap.size, 0, none⟩) (by simp)).trans (by simp [go_sem]))
            go_ret2
            rw [HBAD.out.1, HBAD.out.2]
            exact ⟨rfl, hB2⟩
          · have HNX : Hid (∀ j (h : j < L.length), j < k + 1 → OkAt L j h) := fun j h hj => by
              rcases Nat.lt_or_eq_of_le (Nat.le_of_lt_succ hj) with h1 | h1
              · exact HALL.out j h h1
              · subst h1
                refine ⟨by rw [← show _ = L[j] from HT.out]; exact HMM.out.symm, fun h5 => ?_⟩
                rw [beq_iff_eq] at hl
                rw [← show n = _ from HN.out]
                omega
            clear hq5
            go_wp2_with (go_at_call 22; refine (HM.out _ (hB1 _)).mono ?_; rintro e w1 ⟨rfl, hb1, hB2⟩; have f0 : w1.cell? ⟨wr.heap.size, 0, none⟩ = some (.int .i64 tk) := (hb1.cell (p := ⟨wr.heap.size, 0, none⟩) (by simp)).trans (by simp [go_sem]))
            go_roundw
            case rel => exact ⟨k + 1, by omega, by go_num, hB2, HNX.out⟩
            case measure => simp [intOf]; omega
    · have hkn : k = n := by omega
      have hmay : allMay L = true := (allMay_iff L).2 (fun j h => HALL.out j h (by rw [hkn, show n = _ from HN.out]; exact h))
      have HMAY := Lib.hid hmay
      clear hmay
      have HBA := HB
      clear HB0
      obtain ⟨wa, hwa⟩ : ∃ wa, wa = wr := ⟨_, rfl⟩
      rw [← hwa] at HBA
      clear HB
      rw [← hwa]
      clear hwa
      go_wp2
      go_loopw [7, 37] (fun bv iv wr => ∃ k : Nat, k ≤ n ∧ iv = .int .i64 k ∧ (∀ j (h : j < L.length), j < k → L[j].1 ≠ 5) ∧ (outL ((L.take k).map spl3)).length ≤ 4096 ∧ Below w.heap.size w wr ∧ wr.ownsRow w.heap.size 5 1 bv (outL ((L.take k).map spl3)).length (Lib.byteCells (outL ((L.take k).map spl3)))) (fun _ iv _ => n - (intOf iv).toNat)
      case atStart => exact ⟨0, Nat.zero_le _, rfl, fun j _ h => absurd h (Nat.not_lt_zero _), by simp [outL], HBA.out, by simpa [outL, Lib.byteCells] using World.ownsRow_nil _ _ _ _⟩
      case round =>
        clear hkn hlt hk
        obtain ⟨k, hk, rfl, hno, hbd, hb, hown⟩ := hrel
        have HB := Lib.hid hb
        have HOWN := Lib.hid hown
        have HNO := Lib.hid hno
        clear hb hown hno
        by_cases hlt : k < n
        · have hkL : k < L.length := by rw [← show n = _ from HN.out]; exact hlt
          obtain ⟨b, o, rfl, c0, c1, c2⟩ := (HTA.out.below HB.out) k hkL
          have hmay := (((allMay_iff L).1 HMAY.out) k hkL).1
          have hstop := noEnd_stop L k hkL HNO.out
          obtain ⟨⟨tk, ts, ta⟩, ht⟩ : ∃ t, t = L[k] := ⟨_, rfl⟩
          rw [← ht] at c0 c1 c2 hmay hstop
          have hPm := may_len hmay
          by_cases hk5 : tk = 5
          · have hT := hstop hk5
            have hsp := spelt_ok HMAY.out (by rw [hT]; exact hbd)
            rw [hT] at hsp
            have HSP2 := Lib.hid hsp
            have hcv := own_conv HOWN.out
            obtain ⟨S, hS⟩ : ∃ S : ByteArray, S = ⟨(outL ((L.take k).map spl3)).toArray⟩ := ⟨_, rfl⟩
            rw [← hS] at hcv
            have HS := Lib.hid hS
            have e5 : (tk == 5) = true := by simpa using hk5
            have v1 : (k : Int) < (n : Int) := by omega
            have hB1 := fun o => HB.out.alloc HB.out.size o
            have hcv2 := fun o => own_conv (World.ownsRow.alloc HOWN.out o)
            rw [← hS] at hcv2
            clear ht hmay hstop hPm hk5 hT hsp hS hbd hcv
            go_wp2
            go_ret2
            rw [HSP2.out.1, HSP2.out.2, ← show S = _ from HS.out]
            exact ⟨rfl, hB1 _⟩
          have hnext : outL ((L.take (k + 1)).map spl3) = if k = 0 then spellL tk ts.data.toList else outL ((L.take k).map spl3) ++ 32 :: spellL tk ts.data.toList := by
            rw [List.take_succ_eq_append_getElem hkL, ← ht, List.map_append]
            by_cases h0 : k = 0
            · subst h0; simp [outL, spl3]
            · rw [if_neg h0]
              exact outL_snoc (by simp; exact ⟨h0, fun h => by rw [h] at hkL; simp at hkL⟩) _
          have hpre := noEnd_take L (k + 1) (by omega) (fun j h hj => by
            rcases Nat.lt_or_eq_of_le (Nat.le_of_lt_succ hj) with h1 | h1
            · exact HNO.out j h h1
            · subst h1; rw [← ht]; exact hk5)
          have HPRE := Lib.hid hpre
          have HN5 : Hid (∀ j (h : j < L.length), j < k + 1 → L[j].1 ≠ 5) := fun j h hj => by
            rcases Nat.lt_or_eq_of_le (Nat.le_of_lt_succ hj) with h1 | h1
            · exact HNO.out j h h1
            · subst h1; rw [← ht]; exact hk5
          clear hpre hstop
          have e5 : (tk == 5) = false := by simpa using hk5
          have HSP : Hid (∀ wx, Below w.heap.size w wx → Calls Tryd.prog 23 #[.agg #[.int .i64 tk, .string ts, .int .i64 ta]] wx fun e w' => e = .returned (.string ⟨(spellL tk ts.data.toList).toArray⟩) ∧ Below wx.heap.size wx w' ∧ Below w.heap.size w w') := fun wx hx => by
            refine (spelling_any tk ts ta wx (HE.out.below hx)).mono ?_
            rintro e w' ⟨rfl, hb⟩
            exact ⟨rfl, hb, hx.trans (hb.mono hx.size)⟩
          obtain ⟨A, hA⟩ : ∃ A, A = outL ((L.take k).map spl3) := ⟨_, rfl⟩
          obtain ⟨P, hP⟩ : ∃ P : ByteArray, P = ⟨(spellL tk ts.data.toList).toArray⟩ := ⟨_, rfl⟩
          have hPl : P.data.toList = spellL tk ts.data.toList := by rw [hP]
          rw [← hP] at HSP
          rw [← hA, ← hPl] at hnext
          rw [← hA] at HOWN hbd
          have HNX := Lib.hid hnext
          have v1 : (k : Int) < (n : Int) := by omega
          have hB1 := fun o => HB.out.alloc HB.out.size o
          have hPz : P.data.toList.length = P.size := by simp
          have hAz : A.length + 1 + P.size ≤ 8193 := by rw [← hPl, hPz] at hPm; omega
          have HA := Lib.hid hA
          clear ht hmay hk5 hnext hA hP hPl hPz hPm hbd
          by_cases h0 : k = 0
          · have g0 : decide (0 < k) = false := by simp; omega
            have H0 := Lib.hid h0
            clear h0
            go_wp2_with (first | (go_at_call 23; go_loud (refine (HSP.out _ (hB1 _)).mono ?_; rintro e w1 ⟨rfl, hb1, hB2⟩; have f0 : w1.cell? ⟨wr.heap.size, 0, none⟩ = some (.int .i64 tk) := (hb1.cell (p := ⟨wr.heap.size, 0, none⟩) (by simp)).trans (by simp [go_sem]); have HO1 := own_below (World.ownsRow.alloc HOWN.out _) hb1)) | (at_builtin; refine Lib.wpList_append_own_string _ rfl _ _ 22 9 rfl _ 5 i0 Tryd.underlying22 Tryd.underlying9 hi hz0 hz1 hz2 _ _ _ rfl HO1 P rfl (by unfold maxLen; omega) (by omega) hB2.size ?_; intro v2 w2 hown2 hgrow2 _; refine Hid.out ?_))
            refine Lib.hid ?_
            have hb3 := hB2.grown hgrow2 hB2.size (fun j hj => (World.ownsRow.lt HO1 j hj).1)
            have hown3 : w2.ownsRow w.heap.size 5 1 v2 (outL ((L.take (k + 1)).map spl3)).length (Lib.byteCells (outL ((L.take (k + 1)).map spl3))) := by
              rw [HNX.out, if_pos H0.out]
              have hA0 : A = [] := by rw [HA.out, H0.out]; simp [outL]
              have e1 : Lib.byteCells (P.data.toList) = Lib.byteCells A ++ Lib.byteCells P.data.toList := by rw [hA0]; simp [Lib.byteCells]
              have e2 : (P.data.toList).length = A.length + P.size := by rw [hA0]; simp
              rw [e1, e2]
              exact hown2
            have hlen := own_len hown3
            obtain ⟨z, hz⟩ : ∃ z, z = (outL ((L.take (k + 1)).map spl3)).length := ⟨_, rfl⟩
            have hlen2 : ∀ wx, (Builtin.len_ #[22] 3 #[v2]).run Tryd.prog wx = .ok (.int .i64 z) wx := by rw [hz]; exact hlen
            have HB3 := Lib.hid hb3
            have HOW3 := Lib.hid hown3
            have HZ := Lib.hid hz
            clear hb3 hown3 hown2 hgrow2 hlen hz
            have hlen3 := hlen2 w2
            by_cases hbz : z ≤ 4096
            · have hlim : decide ((4096 : Int) < (z : Int)) = false := by simp; omega
              have hlim2 : (z : Int) ≤ 4096 := by omega
              have HBZ : Hid ((outL ((L.take (k + 1)).map spl3)).length ≤ 4096) := by show _ ≤ _; rw [← show z = _ from HZ.out]; exact hbz
              clear hbz
              go_wp2
              go_roundw
              case rel => exact ⟨k + 1, by omega, by go_num, HN5.out, HBZ.out, HB3.out, HOW3.out⟩
              case measure => simp [intOf]; omega
            · have hlim : decide ((4096 : Int) < (z : Int)) = true := by simp; omega
              have hlim2 : (4096 : Int) < (z : Int) := by omega
              have hsp := spelt_long HMAY.out (by
                have h1 := outL_take (noEnd L) (k + 1)
                rw [HPRE.out.1, ← show z = _ from HZ.out] at h1
                omega)
              have HSP2 := Lib.hid hsp
              clear hbz hsp
              go_wp2
              go_ret2
              rw [HSP2.out.1, HSP2.out.2]
              exact ⟨rfl, HB3.out⟩
          · have g0 : 0 < k := by omega
            have H0 := Lib.hid h0
            clear h0
            have hm1 : A.length + 1 ≤ maxLen := by unfold maxLen; omega
            go_wp2_with (at_builtin; refine wpList_append_own _ rfl _ _ 22 rfl w.heap.size 5 i0 (.int .u8 0) 1 1 Tryd.underlying22 hi hz0 hz1 hz2 rfl (by decide) _ _ _ rfl (World.ownsRow.alloc (World.ownsRow.alloc HOWN.out _) _) ⟨wr.heap.size + 1, 0, none⟩ 1 1 (u8s [32]) rfl rfl (lit_at _ _ (by simp) _ _) (u8s_one _) hm1 (by omega) (by have := HB.out.size; simp; omega) ?_; intro v0 w0 hown0 hgrow0 _; refine Hid.out ?_)
            refine Lib.hid ?_
            have hB0 : Below w.heap.size w w0 := ((HB.out.alloc HB.out.size _).alloc (by have := HB.out.size; simp; omega) _).grown hgrow0 (by have := HB.out.size; simp; omega) (fun j hj => (World.ownsRow.lt HOWN.out j hj).1)
            have fz : ∀ j v, (wr.alloc (.cells #[.int .i64 tk, .string ts, .int .i64 ta] 28)).cell? ⟨wr.heap.size, j, none⟩ = some v → w0.cell? ⟨wr.heap.size, j, none⟩ = some v := by
              intro j v hv
              refine (World.cell?_of_block (a := ⟨wr.heap.size, j, none⟩) (hgrow0.block wr.heap.size (by simp; omega) (fun e => by have := (World.ownsRow.lt HOWN.out _ e.symm).2; omega))).trans ?_
              refine (((Below.refl (wr.alloc (.cells #[.int .i64 tk, .string ts, .int .i64 ta] 28)).heap.size (wr.alloc (.cells #[.int .i64 tk, .string ts, .int .i64 ta] 28))).alloc (Nat.le_refl _) _).cell (p := ⟨wr.heap.size, j, none⟩) (by simp)).trans hv
            have f00 := fz 0 _ (by simp [go_sem]; rfl)
            have f01 := fz 1 _ (by simp [go_sem]; rfl)
            have f02 := fz 2 _ (by simp [go_sem]; rfl)
            clear hgrow0 fz
            go_wp2_with (first | (go_at_call 23; refine (HSP.out _ hB0).mono ?_; rintro e w1 ⟨rfl, hb1, hB2⟩; have HO1 := own_below hown0 hb1) | (at_builtin; refine Lib.wpList_append_own_string _ rfl _ _ 22 9 rfl _ 5 i0 Tryd.underlying22 Tryd.underlying9 hi hz0 hz1 hz2 _ _ _ rfl HO1 P rfl (by unfold maxLen; omega) (by omega) hB2.size ?_; intro v2 w2 hown2 hgrow2 _; refine Hid.out ?_))
            refine Lib.hid ?_
            have hb3 := hB2.grown hgrow2 hB2.size (fun j hj => (World.ownsRow.lt HO1 j hj).1)
            have hown3 : w2.ownsRow w.heap.size 5 1 v2 (outL ((L.take (k + 1)).map spl3)).length (Lib.byteCells (outL ((L.take (k + 1)).map spl3))) := by
              rw [HNX.out, if_neg H0.out]
              have e1 : Lib.byteCells (A ++ 32 :: P.data.toList) = (Lib.byteCells A ++ u8s [32]) ++ Lib.byteCells P.data.toList := by simp [Lib.byteCells, u8s]
              have e2 : (A ++ 32 :: P.data.toList).length = A.length + 1 + P.size := by simp; omega
              rw [e1, e2]
              exact hown2
            have hlen := own_len hown3
            obtain ⟨z, hz⟩ : ∃ z, z = (outL ((L.take (k + 1)).map spl3)).length := ⟨_, rfl⟩
            have hlen2 : ∀ wx, (Builtin.len_ #[22] 3 #[v2]).run Tryd.prog wx = .ok (.int .i64 z) wx := by rw [hz]; exact hlen
            have HB3 := Lib.hid hb3
            have HOW3 := Lib.hid hown3
            have HZ := Lib.hid hz
            clear hb3 hown3 hown2 hgrow2 hlen hz
            have hlen3 := hlen2 w2
            by_cases hbz : z ≤ 4096
            · have hlim : decide ((4096 : Int) < (z : Int)) = false := by simp; omega
              have hlim2 : (z : Int) ≤ 4096 := by omega
              have HBZ : Hid ((outL ((L.take (k + 1)).map spl3)).length ≤ 4096) := by show _ ≤ _; rw [← show z = _ from HZ.out]; exact hbz
              clear hbz
              go_wp2
              go_roundw
              case rel => exact ⟨k + 1, by omega, by go_num, HN5.out, HBZ.out, HB3.out, HOW3.out⟩
              case measure => simp [intOf]; omega
            · have hlim : decide ((4096 : Int) < (z : Int)) = true := by simp; omega
              have hlim2 : (4096 : Int) < (z : Int) := by omega
              have hsp := spelt_long HMAY.out (by
                have h1 := outL_take (noEnd L) (k + 1)
                rw [HPRE.out.1, ← show z = _ from HZ.out] at h1
                omega)
              have HSP2 := Lib.hid hsp
              clear hbz hsp
              go_wp2
              go_ret2
              rw [HSP2.out.1, HSP2.out.2]
              exact ⟨rfl, HB3.out⟩
        · have hkn : k = L.length := by rw [← show n = _ from HN.out]; omega
          have hcv := own_conv HOWN.out
          have hT := noEnd_all L (fun j h => HNO.out j h (by rw [hkn]; exact h))
          rw [show L.take k = L by rw [hkn]; exact List.take_of_length_le (Nat.le_refl _)] at hcv hbd
          have hsp := spelt_ok HMAY.out (by rw [hT]; exact hbd)
          rw [hT] at hsp
          have HSP2 := Lib.hid hsp
          obtain ⟨S, hS⟩ : ∃ S : ByteArray, S = ⟨(outL (L.map spl3)).toArray⟩ := ⟨_, rfl⟩
          rw [← hS] at hcv
          have HS := Lib.hid hS
          clear hkn hS hT hsp hbd
          go_wp2
          go_ret2
          rw [HSP2.out.1, HSP2.out.2, ← show S = _ from HS.out]
          exact ⟨rfl, HB.out⟩
end Go.Proofs.YtdafnkfnaknoiaaDoor
namespace Go.Proofs.YtdafnkfnaknoiaaDoor
open Go Go.RowKit
set_option maxHeartbeats 8000000
set_option linter.unusedVariables false
set_option linter.unusedSimpArgs false
theorem canB_ok {k : Int} {s : ByteArray} {l : Bool} (h : canB k s.data.toList l = true) : mayB k s = true ∧ (k = 5 → l = true) := by
  rw [can_may, Bool.and_eq_true] at h
  refine ⟨h.1, fun h5 => ?_⟩
  have := h.2
  rw [h5] at this
  simpa using this
theorem canB_no {k : Int} {s : ByteArray} {l : Bool} (h : canB k s.data.toList l = false) (hm : mayB k s = true) : k = 5 ∧ l = false := by
  rw [can_may, hm, Bool.true_and] at h
  simpa using h
set_option maxRecDepth 100000 in
theorem refSpell_all (p : Option Addr) (c : Nat) (L : List Tok3) (w : World) (hL : TokAt w p L) (hLen : L.length ≤ 4294967296) (hSz : ∀ t ∈ L, t.2.1.size ≤ 140737488355328) :
    Calls Tryd.prog 27 #[.slice p L.length c] w fun e w' => e = .returned (.tuple #[.string ⟨(speltT L).toArray⟩, .int .i64 (speltE L)]) ∧ Below w.heap.size w w' := by
  obtain ⟨i0, hi, hz0, hz1, hz2⟩ := info_parts infoByte
  have HTA := Lib.hid hL
  have HSZ := Lib.hid hSz
  have HB0 : Hid (Below w.heap.size w w) := Below.refl _ _
  obtain ⟨n, hn⟩ : ∃ n, n = L.length := ⟨_, rfl⟩
  have HN := Lib.hid hn
  rw [← hn] at hLen ⊢
  clear hL hSz hn
  have v3 : (n : Int) ≤ 4294967296 := by omega
  go_enter Tryd.func27, Tryd.ntmps27
  go_wp2
  go_loopw [4] (fun iv wr => ∃ k : Nat, k ≤ n ∧ iv = .int .i64 k ∧ Below w.heap.size w wr ∧ ∀ j (h : j < L.length), j < k → OkAt L j h) (fun iv _ => n - (intOf iv).toNat)
  case atStart => exact ⟨0, Nat.zero_le _, rfl, HB0.out, fun j _ h => absurd h (Nat.not_lt_zero _)⟩
  case round =>
    obtain ⟨k, hk, rfl, hb, hall⟩ := hrel
    have HB := Lib.hid hb
    have HALL := Lib.hid hall
    clear hb hall
    by_cases hlt : k < n
    · have hkL : k < L.length := by rw [← show n = _ from HN.out]; exact hlt
      obtain ⟨b, o, rfl, c0, c1, c2⟩ := (HTA.out.below HB.out) k hkL
      have hsz := HSZ.out L[k] (List.getElem_mem hkL)
      obtain ⟨⟨tk, ts, ta⟩, ht⟩ : ∃ t, t = L[k] := ⟨_, rfl⟩
      have HT := Lib.hid ht
      rw [← ht] at c0 c1 c2 hsz
      have v1 : (k : Int) < (n : Int) := by omega
      have v2 : (1 : Int) ≤ (n : Int) := by omega
      obtain ⟨l, hl⟩ : ∃ l, ((k : Int) == (n : Int) - 1) = l := ⟨_, rfl⟩
      obtain ⟨M, hM⟩ : ∃ M, M = canB tk ts.data.toList l := ⟨_, rfl⟩
      have HM : Hid (∀ wx, Calls Tryd.prog 41 #[.agg #[.int .i64 tk, .string ts, .int .i64 ta], .bool l] wx fun e w' => e = .returned (.bool M) ∧ Below wx.heap.size wx w') := fun wx => by
        rw [hM]
        exact can_r tk ts ta l hsz wx
      have HMM := Lib.hid hM
      have HL2 := Lib.hid hl
      clear ht hM
      cases M
      · have hbad := spelt_bad (allMay_false k hkL (fun h => by
          have h1 := h.1
          have h2 := h.2
          rw [← show _ = L[k] from HT.out] at h1 h2
          obtain ⟨h5, hl0⟩ := canB_no HMM.out.symm h1
          have h3 := h2 h5
          rw [← show n = _ from HN.out] at h3
          have h4 : ((k : Int) == (n : Int) - 1) = false := HL2.out.trans hl0
          rw [beq_eq_false_iff_ne] at h4
          omega))
        have HBAD := Lib.hid hbad
        clear hbad
        go_wp2_with (go_at_call 41; refine (HM.out _).mono ?_; rintro e w1 ⟨rfl, hb1⟩)
        have hB2 : Below w.heap.size w w1 := HB.out.trans (hb1.mono HB.out.size)
        go_ret2
        rw [HBAD.out.1, HBAD.out.2]
        exact ⟨rfl, hB2⟩
      · have HNX : Hid (∀ j (h : j < L.length), j < k + 1 → OkAt L j h) := fun j h hj => by
          rcases Nat.lt_or_eq_of_le (Nat.le_of_lt_succ hj) with h1 | h1
          · exact HALL.out j h h1
          · subst h1
            obtain ⟨h2, h3⟩ := canB_ok HMM.out.symm
            refine ⟨by rw [← show _ = L[j] from HT.out]; exact h2, fun h5 => ?_⟩
            rw [← show _ = L[j] from HT.out] at h5
            have h4 : ((j : Int) == (n : Int) - 1) = true := HL2.out.trans (h3 h5)
            rw [beq_iff_eq] at h4
            rw [← show n = _ from HN.out]
            omega
        go_wp2_with (go_at_call 41; refine (HM.out _).mono ?_; rintro e w1 ⟨rfl, hb1⟩)
        have hB2 : Below w.heap.size w w1 := HB.out.trans (hb1.mono HB.out.size)
        have HB2 := Lib.hid hB2
        clear hB2 hb1
        go_roundw
        case rel => exact ⟨k + 1, by omega, by go_num, HB2.out, HNX.out⟩
        case measure => simp [intOf]; omega
    · have hkn : k = n := by omega
      have hmay : allMay L = true := (allMay_iff L).2 (fun j h => HALL.out j h (by rw [hkn, show n = _ from HN.out]; exact h))
      have HMAY := Lib.hid hmay
      have HBA := HB
      clear HB0 hmay
      obtain ⟨wa, hwa⟩ : ∃ wa, wa = wr := ⟨_, rfl⟩
      rw [← hwa] at HBA
      clear HB
      rw [← hwa]
      clear hwa
      have HBND : Hid (∀ k, k ≤ n → (outL ((L.take k).map spl3)).length ≤ 4097 * k) := fun k hk => by
        have := outL_bound ((L.take k).map spl3) (fun x hx => by
          obtain ⟨t, ht, rfl⟩ := List.mem_map.1 hx
          obtain ⟨j, hj, rfl⟩ := List.mem_iff_getElem.1 (List.mem_of_mem_take ht)
          exact may_len (((allMay_iff L).1 HMAY.out) j hj).1)
        rw [List.length_map, List.length_take] at this
        have hm := Nat.min_le_left k L.length
        have := Nat.mul_le_mul_left 4097 hm
        omega
      have HEND : Hid (∀ k, (noEnd L = L.take k) → ((outL ((L.take k).map spl3)).length ≤ 4096 → speltT L = outL ((L.take k).map spl3) ∧ speltE L = 0) ∧ (4096 < (outL ((L.take k).map spl3)).length → speltT L = [] ∧ speltE L = 2)) := fun k h => by
        rw [← h]
        exact ⟨fun h1 => spelt_ok HMAY.out h1, fun h1 => spelt_long HMAY.out h1⟩
      go_wp2
      go_loopw [5, 6] (fun bv iv wr => ∃ k : Nat, k ≤ n ∧ iv = .int .i64 k ∧ (∀ j (h : j < L.length), j < k → L[j].1 ≠ 5) ∧ Below w.heap.size w wr ∧ wr.ownsRow w.heap.size 5 1 bv (outL ((L.take k).map spl3)).length (Lib.byteCells (outL ((L.take k).map spl3)))) (fun _ iv _ => n - (intOf iv).toNat)
      case atStart => exact ⟨0, Nat.zero_le _, rfl, fun j _ h => absurd h (Nat.not_lt_zero _), HBA.out, by simpa [outL, Lib.byteCells] using World.ownsRow_nil _ _ _ _⟩
      case round =>
        clear hkn hlt hk
        obtain ⟨k, hk, rfl, hno, hb, hown⟩ := hrel
        have HB := Lib.hid hb
        have HOWN := Lib.hid hown
        have HNO := Lib.hid hno
        have hbd := HBND.out k hk
        have hcv := own_conv hown
        have hlen := own_len hown
        obtain ⟨A, hA⟩ : ∃ A, A = outL ((L.take k).map spl3) := ⟨_, rfl⟩
        rw [← hA] at hbd hcv hlen HOWN
        have HA := Lib.hid hA
        obtain ⟨z, hz⟩ : ∃ z, z = A.length := ⟨_, rfl⟩
        have HLEN : Hid (∀ wx, (Builtin.len_ #[22] 3 #[u5]).run Tryd.prog wx = .ok (.int .i64 z) wx) := by rw [hz]; exact hlen
        obtain ⟨S, hS⟩ : ∃ S : ByteArray, S = ⟨A.toArray⟩ := ⟨_, rfl⟩
        rw [← hS] at hcv
        have HS := Lib.hid hS
        have HZ := Lib.hid hz
        have HCV := Lib.hid hcv
        clear hb hown hno hlen hA hcv hS hz
        by_cases hlt : k < n
        · have hkL : k < L.length := by rw [← show n = _ from HN.out]; exact hlt
          obtain ⟨b, o, rfl, c0, c1, c2⟩ := HTA.out k hkL
          have hbw := lt_of_cell c0
          have HC : Hid (∀ wx, Below w.heap.size w wx → wx.cell? ⟨b, o + k * 3, none⟩ = some (.int .i64 L[k].1) ∧ wx.cell? ⟨b, o + k * 3 + 1, none⟩ = some (.string L[k].2.1)) := fun wx hx =>
            ⟨(hx.cell (p := ⟨b, o + k * 3, none⟩) hbw).trans c0, (hx.cell (p := ⟨b, o + k * 3 + 1, none⟩) hbw).trans c1⟩
          have hmay := (((allMay_iff L).1 HMAY.out) k hkL).1
          have hstop := noEnd_stop L k hkL HNO.out
          clear c0 c1 c2 hbw
          obtain ⟨c0, c1⟩ := HC.out wr HB.out
          obtain ⟨⟨tk, ts, ta⟩, ht⟩ : ∃ t, t = L[k] := ⟨_, rfl⟩
          rw [← ht] at c0 c1 hmay hstop HC
          have hPm := may_len hmay
          have v1 : (k : Int) < (n : Int) := by omega
          by_cases hk5 : tk = 5
          · have hE := HEND.out k (hstop hk5)
            rw [← show A = _ from HA.out, ← show z = _ from HZ.out] at hE
            have HE := Lib.hid hE
            have e5 : (tk == 5) = true := by simpa using hk5
            have hl1 := HLEN.out wr
            have hv1 := HCV.out
            clear ht hmay hstop hPm hk5 hE hbd
            by_cases hz4 : z ≤ 4096
            · have g0 : decide ((4096 : Int) < (z : Int)) = false := by simp; omega
              have g1 : ¬ (4096 : Int) < (z : Int) := by omega
              have HE2 := Lib.hid (HE.out.1 hz4)
              clear hz4
              go_wp2
              go_ret2
              rw [HE2.out.1, HE2.out.2, ← show S = _ from HS.out]
              exact ⟨rfl, HB.out⟩
            · have g0 : decide ((4096 : Int) < (z : Int)) = true := by simp; omega
              have g1 : (4096 : Int) < (z : Int) := by omega
              have HE2 := Lib.hid (HE.out.2 (by omega))
              clear hz4
              go_wp2
              go_ret2
              rw [HE2.out.1, HE2.out.2]
              exact ⟨rfl, HB.out⟩
          · have e5 : (tk == 5) = false := by simpa using hk5
            have hnext : outL ((L.take (k + 1)).map spl3) = if k = 0 then spellL tk ts.data.toList else A ++ 32 :: spellL tk ts.data.toList := by
              rw [List.take_succ_eq_append_getElem hkL, ← ht, List.map_append]
              by_cases h0 : k = 0
              · subst h0; simp [outL, spl3]
              · rw [if_neg h0, HA.out]
                exact outL_snoc (by simp; exact ⟨h0, fun h => by rw [h] at hkL; simp at hkL⟩) _
            have HN5 : Hid (∀ j (h : j < L.length), j < k + 1 → L[j].1 ≠ 5) := fun j h hj => by
              rcases Nat.lt_or_eq_of_le (Nat.le_of_lt_succ hj) with h1 | h1
              · exact HNO.out j h h1
              · subst h1; rw [← ht]; exact hk5
            obtain ⟨P, hP⟩ : ∃ P : ByteArray, P = ⟨(spellL tk ts.data.toList).toArray⟩ := ⟨_, rfl⟩
            have hPl : P.data.toList = spellL tk ts.data.toList := by rw [hP]
            have hPz : P.data.toList.length = P.size := by simp
            rw [← hPl] at hnext hPm
            have HNX := Lib.hid hnext
            have hkb : k ≤ 4294967296 := by omega
            have hAz : A.length + 1 + P.size ≤ 17600000000000 := by omega
            have H3 : Hid (tk = 3 → ∀ wx, Calls Tryd.prog 42 #[.string ts] wx fun e w' => e = .returned (.string P) ∧ Below wx.heap.size wx w') := fun h3 wx => by
              subst h3
              have hs := (may_str ts).1 hmay
              have e : P = ⟨(quoteL ts.data.toList).toArray⟩ := by
                rw [hP]
                unfold spellL
                rw [if_pos rfl, if_pos hs]
              rw [e]
              exact quoted_r ts (by have : ts.data.toList.length = ts.size := by simp
                                    omega) wx
            have HN3 : Hid (tk ≠ 3 → P = ts) := fun h3 => by
              apply bytes_ext'
              rw [hPl]
              unfold spellL
              rw [if_neg h3]
            have HGO : Hid (∀ v2 w2, Below w.heap.size w w2 → w2.ownsRow w.heap.size 5 1 v2 (if k = 0 then P.size else A.length + 1 + P.size) (if k = 0 then Lib.byteCells P.data.toList else (Lib.byteCells A ++ u8s [32]) ++ Lib.byteCells P.data.toList) → Below w.heap.size w w2 ∧ w2.ownsRow w.heap.size 5 1 v2 (outL ((L.take (k + 1)).map spl3)).length (Lib.byteCells (outL ((L.take (k + 1)).map spl3)))) := fun v2 w2 h1 h2 => by
              refine ⟨h1, ?_⟩
              rw [HNX.out]
              by_cases h0 : k = 0
              · rw [if_pos h0, if_pos h0] at h2
                rw [if_pos h0, hPz]
                exact h2
              · rw [if_neg h0, if_neg h0] at h2
                rw [if_neg h0]
                have e1 : Lib.byteCells (A ++ 32 :: P.data.toList) = (Lib.byteCells A ++ u8s [32]) ++ Lib.byteCells P.data.toList := by simp [Lib.byteCells, u8s]
                have e2 : (A ++ 32 :: P.data.toList).length = A.length + 1 + P.size := by simp; omega
                rw [e1, e2]
                exact h2
            have hA0 : k = 0 → A = [] := fun h0 => by rw [HA.out, h0]; simp [outL]
            have HA0 := Lib.hid hA0
            clear ht hmay hk5 hnext hP hPl hPz hPm hbd hstop hA0
            by_cases h3 : tk = 3
            · have HQ := H3.out h3
              have e3 : (tk == 3) = true := by simpa using h3
              have HQ2 := Lib.hid HQ
              clear HQ h3
              by_cases h0 : k = 0
              · have g0 : decide (0 < k) = false := by simp; omega
                have H0 := Lib.hid h0
                clear h0
                go_wp2_with (first | (go_at_call 42; refine (HQ2.out _).mono ?_; rintro e w1 ⟨rfl, hb1⟩; have HO1 := own_below HOWN.out hb1; have hB2 := HB.out.trans (hb1.mono HB.out.size)) | (at_builtin; refine Lib.wpList_append_own_string _ rfl _ _ 22 9 rfl _ 5 i0 Tryd.underlying22 Tryd.underlying9 hi hz0 hz1 hz2 _ _ _ rfl HO1 P rfl (by unfold maxLen; omega) (by omega) hB2.size ?_; intro v2 w2 hown2 hgrow2 _; refine Hid.out ?_))
                refine Lib.hid ?_
                have hb3 := hB2.grown hgrow2 hB2.size (fun j hj => (World.ownsRow.lt HO1 j hj).1)
                have hfin := HGO.out v2 w2 hb3 (by
                  rw [if_pos H0.out, if_pos H0.out]
                  rw [HA0.out H0.out] at hown2
                  have e1 : Lib.byteCells P.data.toList = Lib.byteCells [] ++ Lib.byteCells P.data.toList := by simp [Lib.byteCells]
                  have e2 : P.size = ([] : List UInt8).length + P.size := by simp
                  rw [e1, e2]
                  exact hown2)
                have HF := Lib.hid hfin
                clear hfin hb3 hown2 hgrow2
                go_wp2
                go_roundw
                case rel => exact ⟨k + 1, by omega, by go_num, HN5.out, HF.out.1, HF.out.2⟩
                case measure => simp [intOf]; omega
              · have g0 : 0 < k := by omega
                have H0 := Lib.hid h0
                clear h0
                have hm1 : A.length + 1 ≤ maxLen := by unfold maxLen; omega
                go_wp2_with (at_builtin; refine wpList_append_own _ rfl _ _ 22 rfl w.heap.size 5 i0 (.int .u8 0) 1 1 Tryd.underlying22 hi hz0 hz1 hz2 rfl (by decide) _ _ _ rfl (World.ownsRow.alloc HOWN.out _) ⟨wr.heap.size, 0, none⟩ 1 1 (u8s [32]) rfl rfl (lit_at _ _ (by simp) _ _) (u8s_one _) hm1 (by omega) (by have := HB.out.size; simp; omega) ?_; intro v0 w0 hown0 hgrow0 _; refine Hid.out ?_)
                refine Lib.hid ?_
                have hB0 : Below w.heap.size w w0 := (HB.out.alloc HB.out.size _).grown hgrow0 (by have := HB.out.size; simp; omega) (fun j hj => (World.ownsRow.lt HOWN.out j hj).1)
                obtain ⟨f0, f1⟩ := HC.out w0 hB0
                clear hgrow0
                go_wp2_with (first | (go_at_call 42; refine (HQ2.out _).mono ?_; rintro e w1 ⟨rfl, hb1⟩; have HO1 := own_below hown0 hb1; have hB2 := hB0.trans (hb1.mono hB0.size)) | (at_builtin; refine Lib.wpList_append_own_string _ rfl _ _ 22 9 rfl _ 5 i0 Tryd.underlying22 Tryd.underlying9 hi hz0 hz1 hz2 _ _ _ rfl HO1 P rfl (by unfold maxLen; omega) (by omega) hB2.size ?_; intro v2 w2 hown2 hgrow2 _; refine Hid.out ?_))
                refine Lib.hid ?_
                have hb3 := hB2.grown hgrow2 hB2.size (fun j hj => (World.ownsRow.lt HO1 j hj).1)
                have hfin := HGO.out v2 w2 hb3 (by
                  rw [if_neg H0.out, if_neg H0.out]
                  exact hown2)
                have HF := Lib.hid hfin
                clear hfin hb3 hown2 hgrow2
                go_wp2
                go_roundw
                case rel => exact ⟨k + 1, by omega, by go_num, HN5.out, HF.out.1, HF.out.2⟩
                case measure => simp [intOf]; omega
            · have hPt := HN3.out h3
              subst hPt
              have e3 : (tk == 3) = false := by simpa using h3
              clear h3
              by_cases h0 : k = 0
              · have g0 : decide (0 < k) = false := by simp; omega
                have H0 := Lib.hid h0
                clear h0
                go_wp2_with (at_builtin; refine Lib.wpList_append_own_string _ rfl _ _ 22 9 rfl _ 5 i0 Tryd.underlying22 Tryd.underlying9 hi hz0 hz1 hz2 _ _ _ rfl HOWN.out P rfl (by unfold maxLen; omega) (by omega) HB.out.size ?_; intro v2 w2 hown2 hgrow2 _; refine Hid.out ?_)
                refine Lib.hid ?_
                have hb3 := HB.out.grown hgrow2 HB.out.size (fun j hj => (World.ownsRow.lt HOWN.out j hj).1)
                have hfin := HGO.out v2 w2 hb3 (by
                  rw [if_pos H0.out, if_pos H0.out]
                  rw [HA0.out H0.out] at hown2
                  have e1 : Lib.byteCells P.data.toList = Lib.byteCells [] ++ Lib.byteCells P.data.toList := by simp [Lib.byteCells]
                  have e2 : P.size = ([] : List UInt8).length + P.size := by simp
                  rw [e1, e2]
                  exact hown2)
                have HF := Lib.hid hfin
                clear hfin hb3 hown2 hgrow2
                go_wp2
                go_roundw
                case rel => exact ⟨k + 1, by omega, by go_num, HN5.out, HF.out.1, HF.out.2⟩
                case measure => simp [intOf]; omega
              · have g0 : 0 < k := by omega
                have H0 := Lib.hid h0
                clear h0
                have hm1 : A.length + 1 ≤ maxLen := by unfold maxLen; omega
                go_wp2_with (at_builtin; refine wpList_append_own _ rfl _ _ 22 rfl w.heap.size 5 i0 (.int .u8 0) 1 1 Tryd.underlying22 hi hz0 hz1 hz2 rfl (by decide) _ _ _ rfl (World.ownsRow.alloc HOWN.out _) ⟨wr.heap.size, 0, none⟩ 1 1 (u8s [32]) rfl rfl (lit_at _ _ (by simp) _ _) (u8s_one _) hm1 (by omega) (by have := HB.out.size; simp; omega) ?_; intro v0 w0 hown0 hgrow0 _; refine Hid.out ?_)
                refine Lib.hid ?_
                have hB0 : Below w.heap.size w w0 := (HB.out.alloc HB.out.size _).grown hgrow0 (by have := HB.out.size; simp; omega) (fun j hj => (World.ownsRow.lt HOWN.out j hj).1)
                obtain ⟨f0, f1⟩ := HC.out w0 hB0
                clear hgrow0
                go_wp2_with (at_builtin; refine Lib.wpList_append_own_string _ rfl _ _ 22 9 rfl _ 5 i0 Tryd.underlying22 Tryd.underlying9 hi hz0 hz1 hz2 _ _ _ rfl hown0 P rfl (by unfold maxLen; omega) (by omega) hB0.size ?_; intro v2 w2 hown2 hgrow2 _; refine Hid.out ?_)
                refine Lib.hid ?_
                have hb3 := hB0.grown hgrow2 hB0.size (fun j hj => (World.ownsRow.lt hown0 j hj).1)
                have hfin := HGO.out v2 w2 hb3 (by
                  rw [if_neg H0.out, if_neg H0.out]
                  exact hown2)
                have HF := Lib.hid hfin
                clear hfin hb3 hown2 hgrow2
                go_wp2
                go_roundw
                case rel => exact ⟨k + 1, by omega, by go_num, HN5.out, HF.out.1, HF.out.2⟩
                case measure => simp [intOf]; omega
        · have hkn : k = L.length := by rw [← show n = _ from HN.out]; omega
          have hE := HEND.out k (by rw [hkn, List.take_length]; exact noEnd_all L (fun j h => HNO.out j h (by rw [hkn]; exact h)))
          rw [← show A = _ from HA.out, ← show z = _ from HZ.out] at hE
          have HE := Lib.hid hE
          have hl1 := HLEN.out wr
          have hv1 := HCV.out
          have v1 : ¬ (k : Int) < (n : Int) := by omega
          have d1 : decide (k < n) = false := by simp; omega
          clear hkn hE hbd hlt
          by_cases hz4 : z ≤ 4096
          · have g0 : decide ((4096 : Int) < (z : Int)) = false := by simp; omega
            have g1 : ¬ (4096 : Int) < (z : Int) := by omega
            have HE2 := Lib.hid (HE.out.1 hz4)
            clear hz4
            go_wp2
            go_ret2
            rw [HE2.out.1, HE2.out.2, ← show S = _ from HS.out]
            exact ⟨rfl, HB.out⟩
          · have g0 : decide ((4096 : Int) < (z : Int)) = true := by simp; omega
            have g1 : (4096 : Int) < (z : Int) := by omega
            have HE2 := Lib.hid (HE.out.2 (by omega))
            clear hz4
            go_wp2
            go_ret2
            rw [HE2.out.1, HE2.out.2]
            exact ⟨rfl, HB.out⟩
end Go.Proofs.YtdafnkfnaknoiaaDoor
