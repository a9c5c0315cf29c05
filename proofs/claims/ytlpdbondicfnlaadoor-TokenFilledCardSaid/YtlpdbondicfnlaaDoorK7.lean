/- The walk of TokenBack. -/
import Derived.Test.YtlpdbondicfnlaaDoorG7
import Derived.Test.YtlpdbondicfnlaaDoorS9
namespace Go.Proofs.YtlpdbondicfnlaaDoor
open Go Go.RowKit
set_option maxHeartbeats 2000000
set_option linter.unusedVariables false
set_option linter.unusedSimpArgs false
/-- tokens handed in, their texts not too long -/
def ToksIn (w : World) (p : Option Addr) (len : Nat) : Prop := ∀ i, i < len → ∃ (b o : Nat) (k : Int) (s : ByteArray) (a : Int), p = some ⟨b, o, none⟩ ∧ s.size ≤ 140737488351232 ∧
  w.cell? ⟨b, o + i * 3, none⟩ = some (.int .i64 k) ∧ w.cell? ⟨b, o + i * 3 + 1, none⟩ = some (.string s) ∧ w.cell? ⟨b, o + i * 3 + 2, none⟩ = some (.int .i64 a)
theorem ToksIn.below {w w' : World} {p : Option Addr} {n : Nat} (h : ToksIn w p n) (hb : Below w.heap.size w w') : ToksIn w' p n := fun i hi => by
  obtain ⟨b, o, k, s, a, e, hs, c0, c1, c2⟩ := h i hi
  have hl := lt_of_cell c0
  exact ⟨b, o, k, s, a, e, hs, (hb.cell (p := ⟨b, o + i * 3, none⟩) hl).trans c0, (hb.cell (p := ⟨b, o + i * 3 + 1, none⟩) hl).trans c1, (hb.cell (p := ⟨b, o + i * 3 + 2, none⟩) hl).trans c2⟩
set_option maxRecDepth 100000 in
theorem back_walk (p : Option Addr) (len cap : Nat) (w : World) (he : Errs w) (hlen : len ≤ maxLen) (hT : ToksIn w p len) : Calls Tryd.prog 5 #[.slice p len cap] w fun e w' => e = .returned (.bool true) ∧ Below w.heap.size w w' := by
  obtain ⟨i0, hi, hz0, hz1, hz2⟩ := info_parts infoTok
  have HE := Lib.hid he
  have HT := Lib.hid hT
  have HB0 : Hid (Below w.heap.size w w) := Below.refl _ _
  clear he hT
  have hlm : (len : Int) ≤ 9223372036854775807 := by unfold maxLen at hlen; omega
  go_enter Tryd.func5, Tryd.ntmps5
  go_wp2
  go_loopw [3, 4] (fun lv iv wr => ∃ L : List Tk, iv = .int .i64 L.length ∧ L.length ≤ len ∧ L.length ≤ 4 ∧ Made L ∧ wr.ownsRow w.heap.size 28 3 lv L.length (tkCells L) ∧ Below w.heap.size w wr) (fun _ iv _ => 4 - (intOf iv).toNat)
  case atStart => exact ⟨[], rfl, Nat.zero_le _, by simp, (by intro t ht; cases ht), World.ownsRow_nil _ _ _ _, HB0.out⟩
  case round =>
    obtain ⟨L, rfl, hl1, hl4, hmade, hown, hb⟩ := hrel
    have HM := Lib.hid hmade
    have HO := Lib.hid hown
    have HB := Lib.hid hb
    clear hmade hown hb
    obtain ⟨n, hn⟩ : ∃ n, n = L.length := ⟨_, rfl⟩
    have HN := Lib.hid hn
    have HO2 : Hid (wr.ownsRow w.heap.size 28 3 u3 n (tkCells L)) := by rw [hn]; exact HO.out
    rw [← hn] at hl1 hl4 ⊢
    clear hn
    by_cases hgo : n < len ∧ n < 4
    · have d1 : decide (n < len) = true := by simp; omega
      have d2 : decide ((n : Int) < 4) = true := by simp; omega
      have v1 : (n : Int) < (len : Int) := by omega
      have v2 : (n : Int) < 4 := by omega
      obtain ⟨b, o, k, s, a, rfl, hs, c0, c1, c2⟩ := (HT.out.below HB.out) n hgo.1
      have HPL : Hid (∀ wx, Below w.heap.size w wx → Calls Tryd.prog 10 #[.agg #[.int .i64 k, .string s, .int .i64 a]] wx fun e w' => (∃ k' s', e = .returned (.agg #[.int .i64 k', .string s', .int .i64 0]) ∧ PlainTok k' s'.data.toList) ∧ Below wx.heap.size wx w' ∧ Below w.heap.size w w') := fun wx hx => (plainest_any k s a hs wx).mono fun e w' ⟨h1, h2⟩ => ⟨h1, h2, hx.trans (h2.mono hx.size)⟩
      have hm1 : n + 1 ≤ maxLen := by unfold maxLen; omega
      have hm2 : (n + 1) * 32 ≤ 140737488355328 := by omega
      clear hgo
      go_wp2_with (first | (go_at_call 10; refine (HPL.out _ HB.out).mono ?_; rintro e w1 ⟨⟨k', s', rfl, hpt⟩, hb1, hB1⟩; have hO1 := own3_keep HO2.out hb1; have HPT := Lib.hid hpt; clear hpt) | (at_builtin; refine wpList_append_lies _ rfl _ _ 23 rfl w.heap.size 28 i0 (.agg #[.int .i64 0, .string ⟨#[]⟩, .int .i64 0]) 3 32 Tryd.underlying23 hi hz0 hz1 hz2 rfl (by decide) _ _ _ rfl (World.ownsRow.alloc (World.ownsRow.alloc hO1 _) _) ⟨w1.heap.size + 1, 0, none⟩ 1 1 [.int .i64 k', .string s', .int .i64 0] rfl rfl (fun j u h => lit_at _ _ (by simp) _ _ j u h) (ones3 _ _ _) (by decide) hm1 hm2 (by have := hB1.size; simp; omega) (w1.heap.size + 2) (by simp) ?_))
      intro g5 cap5 w5 hown5 hgr5 hwh5 hlt5
      have hb5 : Below w.heap.size w w5 := ((hB1.alloc hB1.size _).alloc (by have := hB1.size; simp; omega) _).grown hgr5 (by have := hB1.size; simp; omega) (fun j hj => (World.ownsRow.lt hO1 j hj).1)
      have hown6 : w5.ownsRow w.heap.size 28 3 (.slice (some ⟨g5, 0, none⟩) (n + 1) cap5) (L ++ [(k', s'.data.toList, 0)]).length (tkCells (L ++ [(k', s'.data.toList, 0)])) := by
        rw [tkCells_snoc, List.length_append, ← show n = _ from HN.out]
        have e : tkV (k', s'.data.toList, 0) = [.int .i64 k', .string s', .int .i64 0] := by
          unfold tkV
          rw [show (⟨s'.data.toList.toArray⟩ : ByteArray) = s' from bytes_ext' (by simp)]
          rfl
        rw [e]
        exact hown5
      have HB5 := Lib.hid hb5
      have HO6 := Lib.hid hown6
      clear hown5 hgr5 hwh5 hlt5 hb5 hown6 hB1 hb1 hO1
      go_wp2
      go_roundw
      case rel => exact ⟨L ++ [(k', s'.data.toList, 0)], by rw [List.length_append, ← show n = _ from HN.out]; go_num, by rw [List.length_append, ← show n = _ from HN.out]; simp; omega, by rw [List.length_append, ← show n = _ from HN.out]; simp; omega, made_snoc HM.out HPT.out, HO6.out, HB5.out⟩
      case measure => simp [intOf]; omega
    · have hd : decide (n < len) = false ∨ (decide (n < len) = true ∧ decide ((n : Int) < 4) = false) := by
        by_cases h : n < len
        · right; exact ⟨by simp; omega, by simp; omega⟩
        · left; simp; omega
      clear hgo
      obtain ⟨q, c, hu, hTA⟩ := own_tokAt HO.out
      rw [← show n = _ from HN.out] at hu
      subst hu
      have hLm : (L.map toT).length = n := by rw [List.length_map]; exact HN.out.symm
      have hout : outL ((L.map toT).map spl3) = outT L := by rw [List.map_map]; rfl
      have hol := out_len L HM.out
      rw [← show n = _ from HN.out] at hol
      have hcan : ∀ t ∈ L.map toT, t.1 ≠ 5 ∧ mayB t.1 t.2.1 = true := by
        intro t ht
        obtain ⟨u, hu, rfl⟩ := List.mem_map.1 ht
        have hg := (HM.out u hu).1
        refine ⟨hg.ne5, ?_⟩
        have : Good u.1 (toT u).2.1.data.toList := hg
        exact this.may
      obtain ⟨S, hS⟩ : ∃ S : ByteArray, S = ⟨(outT L).toArray⟩ := ⟨_, rfl⟩
      have hSl : S.data.toList = outT L := by rw [hS]
      have HSP : Hid (Calls Tryd.prog 11 #[.slice q n c] wr fun e w' => e = .returned (.tuple #[.string S, .int .i64 0]) ∧ Below wr.heap.size wr w' ∧ Below w.heap.size w w') := by
        have := spell_any q c (L.map toT) wr (HE.out.below HB.out) hTA (by omega) hcan (by rw [hout]; omega)
        rw [hLm, hout, ← hS] at this
        exact this.mono fun e w' ⟨h1, h2⟩ => ⟨h1, h2, HB.out.trans (h2.mono HB.out.size)⟩
      have HSC : Hid (∀ wx, Below w.heap.size w wx → Calls Tryd.prog 9 #[.string S] wx fun e w' => (∃ g cap, e = .returned (.tuple #[.slice (some ⟨g, 0, none⟩) (n + 1) cap, .int .i64 0, .int .i64 0]) ∧ Lie w' g (cameL L)) ∧ Below wx.heap.size wx w' ∧ Below w.heap.size w w') := fun wx hx => by
        have := scan_ok_at S (cameL L) (by intro h; have := congrArg List.length h; rw [came_len] at this; cases this) (by rw [hSl]; exact came_scan L HM.out (by rw [← show n = _ from HN.out]; omega)) w HE.out wx hx
        rw [came_len, ← show n = _ from HN.out] at this
        exact this
      have HTA := Lib.hid hTA
      have HOUT := Lib.hid hSl
      have HLM := Lib.hid hLm
      clear hTA hLm hout hcan hS hSl hol
      rcases hd with d1 | ⟨d1, d2⟩
      all_goals
        go_wp2_with fail
        refine HSP.out.mono ?_
        rintro e w1 ⟨rfl, hb1, hB1⟩
        go_wp2_with fail
        refine (HSC.out _ hB1).mono ?_
        rintro e w2 ⟨⟨g, cap2, rfl, hL2⟩, hb2, hB2⟩
        have hAL : Calls Tryd.prog 12 #[.slice q n c, .slice (some ⟨g, 0, none⟩) (n + 1) cap2] w2 fun e w' => e = .returned (.bool true) ∧ Below w2.heap.size w2 w' := by
          have := alike_any q (some ⟨g, 0, none⟩) c cap2 (L.map toT) ((cameL L).map toT) w2 (HTA.out.below (hb1.trans (hb2.mono hb1.size))) (lie_tokAt hL2) (by rw [List.length_map, List.length_map, came_len]) (by rw [HLM.out]; omega)
            (fun i hi => by
              have hi' : i < L.length := by simpa using hi
              obtain ⟨a, ha⟩ := came_at L i L[i] (List.getElem?_eq_getElem hi')
              exact ⟨toT L[i], toT (L[i].1, L[i].2.1, a), by rw [List.getElem?_map, List.getElem?_eq_getElem hi']; rfl, by rw [List.getElem?_map, ha]; rfl, rfl, rfl⟩)
            (by
              have h5 := came_end L
              have h6 : ((cameL L).map toT)[(L.map toT).length]? = some (toT (5, [], (outT L).length)) := by rw [List.getElem?_map, List.length_map, h5]; rfl
              have h7 : (L.map toT).length < ((cameL L).map toT).length := by rw [List.length_map, List.length_map, came_len]; omega
              rw [List.getElem?_eq_getElem h7] at h6
              rw [Option.some.inj h6]
              exact ⟨rfl, rfl⟩)
          rw [HLM.out, List.length_map, came_len, ← show n = _ from HN.out] at this
          exact this
        have HL2 := Lib.hid (lie_tokAt hL2)
        have HB2 := Lib.hid hB2
        clear hL2 hb1 hb2 hB1 hB2
        go_wp2_with fail
        refine hAL.mono ?_
        rintro e w3 ⟨rfl, hb3⟩
        have HB3 := Lib.hid (HB2.out.trans (hb3.mono HB2.out.size))
        have HL3 := Lib.hid (HL2.out.below hb3)
        clear hb3 hAL
        have hSz : S.size = (outT L).length := by have := size_of HOUT.out; exact this
        have hSm : (outT L).length ≤ 4000 := by have := out_len L HM.out; rw [← show n = _ from HN.out] at this; omega
        have HSZ := Lib.hid hSz
        have HSM := Lib.hid hSm
        clear hSz hSm
        go_wp2
        go_loopw [11, 12] (fun lv iv wx => ∃ (i : Nat) (z : Int), lv = .int .i64 z ∧ iv = .int .i64 i ∧ i ≤ n + 1 ∧ (∀ v, (cameL L)[i]? = some v → z < (v.2.2 : Int)) ∧ Below w.heap.size w wx ∧ TokAt wx (some ⟨g, 0, none⟩) ((cameL L).map toT)) (fun _ iv _ => 2 * n + 2 - (intOf iv).toNat)
        case atStart => exact ⟨0, -1, rfl, rfl, by omega, fun v _ => by omega, HB3.out, HL3.out⟩
        case round =>
          obtain ⟨i, z, rfl, rfl, hi1, hz, hb, hta⟩ := hrel
          have HB4 := Lib.hid hb
          have HTA4 := Lib.hid hta
          have HZ := Lib.hid hz
          clear hz hb hta
          by_cases hlt : i < n + 1
          · have hiL : i < L.length + 1 := by rw [← show n = _ from HN.out]; exact hlt
            obtain ⟨k, s, a, hM, hst⟩ := came_stands L HM.out i hiL
            have hiM : i < ((cameL L).map toT).length := by rw [List.length_map, came_len]; exact hiL
            obtain ⟨b', o', he, c0, c1, c2⟩ := HTA4.out i hiM
            simp only [Option.some.injEq, Addr.mk.injEq, and_true] at he
            obtain ⟨rfl, rfl⟩ := he
            have hel : ((cameL L).map toT)[i] = toT (k, s, a) := by
              have : ((cameL L).map toT)[i]? = some (toT (k, s, a)) := by rw [List.getElem?_map, hM]; rfl
              rw [List.getElem?_eq_getElem hiM] at this
              exact Option.some.inj this
            rw [hel] at c0 c1 c2
            simp only [toT, Nat.zero_add] at c0 c1 c2
            have hza := HZ.out _ hM
            simp only at hza
            have hle := hst.le
            have HST := Lib.hid hst
            have HUP : Hid (∀ v, (cameL L)[i + 1]? = some v → (a : Int) < (v.2.2 : Int)) := fun v hv => by have := came_up L HM.out i _ v hM hv; simp only at this; omega
            obtain ⟨T, hT⟩ : ∃ T : ByteArray, T = ⟨s.toArray⟩ := ⟨_, rfl⟩
            rw [← hT] at c1
            have hTz : T.size = s.length := by rw [hT]; simp [ByteArray.size]
            have hTl : T.data.toList = s := by rw [hT]
            have HTT := Lib.hid hT
            have a1 : decide ((a : Int) < 0) = false := by simp
            have a2 : decide ((S.size : Int) < (a : Int)) = false := by have := HSZ.out; simp; omega
            have a3 : decide ((a : Int) ≤ z) = false := by simp; omega
            have a4 : (a : Int) ≤ (S.size : Int) := by have := HSZ.out; omega
            have a5 : (0 : Int) ≤ (a : Int) := by omega
            have a6 : (S.size : Int) ≤ 4000 := by have := HSZ.out; have := HSM.out; omega
            have v1 : (i : Int) < (n : Int) + 1 := by omega
            have v2 : (n : Int) + 1 ≤ 2000 := by omega
            clear hM hst hel hiM hiL hT hza hle
            by_cases hk : k = 1 ∨ k = 2 ∨ k = 4
            · obtain ⟨t1, t2⟩ := HST.out.text hk
              have b1 : (a : Int) + (T.size : Int) ≤ (S.size : Int) := by have := HSZ.out; omega
              have b2 : decide ((S.size : Int) < (a : Int) + (T.size : Int)) = false := by simp; omega
              have b4 : a + T.size ≤ S.size := by have := HSZ.out; omega
              have b5 : (T.size : Int) ≤ 4000 := by omega
              have hEQ : S.extract a (a + T.size) = T := by
                apply bytes_ext'
                rw [ByteArray.data_extract]
                simp only [Array.toList_extract, List.extract_eq_take_drop]
                rw [HOUT.out, hTl, hTz, show a + s.length - a = s.length by omega]
                exact t2
              have b3 : ((S.extract a (a + T.size)).toList == T.toList) = true := by rw [hEQ]; simp
              clear t1 t2 hTz hTl hEQ
              rcases hk with rfl | rfl | rfl
              · go_wp2
                go_quiet (fail)
                go_wp2
                go_roundw
                case rel => exact ⟨i + 1, a, rfl, by go_num, by omega, HUP.out, below_drewN (HB4.out.alloc HB4.out.size _) _, HTA4.out.below (below_drewN ((Below.refl _ _).alloc (Nat.le_refl _) _) _)⟩
                case measure => simp [intOf]; omega
              · go_wp2
                go_quiet (fail)
                go_wp2
                go_roundw
                case rel => exact ⟨i + 1, a, rfl, by go_num, by omega, HUP.out, below_drewN (HB4.out.alloc HB4.out.size _) _, HTA4.out.below (below_drewN ((Below.refl _ _).alloc (Nat.le_refl _) _) _)⟩
                case measure => simp [intOf]; omega
              · go_wp2
                go_quiet (fail)
                go_wp2
                go_roundw
                case rel => exact ⟨i + 1, a, rfl, by go_num, by omega, HUP.out, below_drewN (HB4.out.alloc HB4.out.size _) _, HTA4.out.below (below_drewN ((Below.refl _ _).alloc (Nat.le_refl _) _) _)⟩
                case measure => simp [intOf]; omega
            · have hk2 : k = 3 ∨ k = 5 := by rcases HST.out.kind with h | h | h | h | h <;> simp [h] at hk ⊢
              clear hk hTz hTl
              rcases hk2 with rfl | rfl
              · go_wp2
                go_quiet (fail)
                go_wp2
                go_roundw
                case rel => exact ⟨i + 1, a, rfl, by go_num, by omega, HUP.out, below_drewN (HB4.out.alloc HB4.out.size _) _, HTA4.out.below (below_drewN ((Below.refl _ _).alloc (Nat.le_refl _) _) _)⟩
                case measure => simp [intOf]; omega
              · go_wp2
                go_quiet (fail)
                go_wp2
                go_roundw
                case rel => exact ⟨i + 1, a, rfl, by go_num, by omega, HUP.out, below_drewN (HB4.out.alloc HB4.out.size _) _, HTA4.out.below (below_drewN ((Below.refl _ _).alloc (Nat.le_refl _) _) _)⟩
                case measure => simp [intOf]; omega
          · have hin : i = n + 1 := by omega
            have hnM : n < ((cameL L).map toT).length := by rw [List.length_map, came_len, ← show n = _ from HN.out]; omega
            obtain ⟨b', o', he, c0, c1, c2⟩ := HTA4.out n hnM
            simp only [Option.some.injEq, Addr.mk.injEq, and_true] at he
            obtain ⟨rfl, rfl⟩ := he
            have hel : ((cameL L).map toT)[n] = toT (5, [], (outT L).length) := by
              have h5 := came_end L
              rw [← show n = _ from HN.out] at h5
              have : ((cameL L).map toT)[n]? = some (toT (5, [], (outT L).length)) := by rw [List.getElem?_map, h5]; rfl
              rw [List.getElem?_eq_getElem hnM] at this
              exact Option.some.inj this
            rw [hel] at c0 c1 c2
            simp only [toT, Nat.zero_add, ← HSZ.out] at c2
            have v2 : (n : Int) + 1 ≤ 2000 := by omega
            have v3 : ¬ (i : Int) < (n : Int) + 1 := by omega
            have v4 : decide ((i : Int) < (n : Int) + 1) = false := by simp; omega
            have a6 : (S.size : Int) ≤ 4000 := by have := HSZ.out; have := HSM.out; omega
            clear c0 c1 hel hnM hin
            go_wp2
            go_ret
            exact ⟨rfl, HB4.out⟩
end Go.Proofs.YtlpdbondicfnlaaDoor
