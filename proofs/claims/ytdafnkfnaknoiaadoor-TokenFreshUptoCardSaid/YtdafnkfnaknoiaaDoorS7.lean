/- Contract of token.Spell, of tokens that can be. -/
import Derived.Test.YtdafnkfnaknoiaaDoorS6
import Derived.Deep.LoopGhost
namespace Go.Proofs.YtdafnkfnaknoiaaDoor
open Go Go.RowKit
set_option maxHeartbeats 1000000
set_option linter.unusedVariables false
set_option linter.unusedSimpArgs false
attribute [local go_sem ↓] run_eql_T run_neq_T
abbrev Tok3 := Int × ByteArray × Int
/-- tokens lie there -/
def TokAt (w : World) (p : Option Addr) (L : List Tok3) : Prop := ∀ i (h : i < L.length), ∃ b o, p = some ⟨b, o, none⟩ ∧ w.cell? ⟨b, o + i * 3, none⟩ = some (.int .i64 L[i].1) ∧ w.cell? ⟨b, o + i * 3 + 1, none⟩ = some (.string L[i].2.1) ∧ w.cell? ⟨b, o + i * 3 + 2, none⟩ = some (.int .i64 L[i].2.2)
theorem TokAt.below {w w' : World} {p : Option Addr} {L : List Tok3} (h : TokAt w p L) (hb : Below w.heap.size w w') : TokAt w' p L := fun i hi => by
  obtain ⟨b, o, e, c0, c1, c2⟩ := h i hi
  have hl := lt_of_cell c0
  exact ⟨b, o, e, (hb.cell (p := ⟨b, o + i * 3, none⟩) hl).trans c0, (hb.cell (p := ⟨b, o + i * 3 + 1, none⟩) hl).trans c1, (hb.cell (p := ⟨b, o + i * 3 + 2, none⟩) hl).trans c2⟩
/-- texts with one blank between each two -/
def outL : List (List UInt8) → List UInt8
  | [] => []
  | x :: r => x ++ r.flatMap (fun y => 32 :: y)
theorem outL_snoc {ls : List (List UInt8)} (h : ls ≠ []) (x : List UInt8) : outL (ls ++ [x]) = outL ls ++ 32 :: x := by
  cases ls with
  | nil => exact absurd rfl h
  | cons a r => simp [outL, List.flatMap_append]
def spl3 (t : Tok3) : List UInt8 := spellL t.1 t.2.1.data.toList
theorem outL_app (a b : List (List UInt8)) : (outL a).length ≤ (outL (a ++ b)).length := by
  cases a with
  | nil => simp [outL]
  | cons x r => simp [outL, List.flatMap_append]
theorem outL_take (L : List Tok3) (k : Nat) : (outL ((L.take k).map spl3)).length ≤ (outL (L.map spl3)).length := by
  have := outL_app ((L.take k).map spl3) ((L.drop k).map spl3)
  rw [← List.map_append, List.take_append_drop] at this
  exact this
set_option maxRecDepth 100000 in
theorem spell_any (p : Option Addr) (c : Nat) (L : List Tok3) (w : World) (he : Errs w) (hL : TokAt w p L) (hLen : L.length ≤ 1000) (hcan : ∀ t ∈ L, t.1 ≠ 5 ∧ mayB t.1 t.2.1 = true) (hsz : (outL (L.map spl3)).length ≤ 4096) :
    Calls Tryd.prog 11 #[.slice p L.length c] w fun e w' => e = .returned (.tuple #[.string ⟨(outL (L.map spl3)).toArray⟩, .int .i64 0]) ∧ Below w.heap.size w w' := by
  obtain ⟨i0, hi, hz0, hz1, hz2⟩ := info_parts infoByte
  have HE := Lib.hid he
  have HTA := Lib.hid hL
  have HCAN := Lib.hid hcan
  have HSZ := Lib.hid hsz
  have HB0 : Hid (Below w.heap.size w w) := Below.refl _ _
  obtain ⟨n, hn⟩ : ∃ n, n = L.length := ⟨_, rfl⟩
  have HN := Lib.hid hn
  rw [← hn] at hLen ⊢
  clear he hL hcan hsz hn
  go_enter Tryd.func11, Tryd.ntmps11
  go_wp2
  go_loopw [12] (fun iv wr => ∃ k : Nat, k ≤ n ∧ iv = .int .i64 k ∧ Below w.heap.size w wr) (fun iv _ => n - (intOf iv).toNat)
  case atStart => exact ⟨0, Nat.zero_le _, rfl, HB0.out⟩
  case round =>
    obtain ⟨k, hk, rfl, hb⟩ := hrel
    have HB := Lib.hid hb
    clear hb
    by_cases hlt : k < n
    · have hkL : k < L.length := by rw [← show n = _ from HN.out]; exact hlt
      obtain ⟨b, o, rfl, c0, c1, c2⟩ := (HTA.out.below HB.out) k hkL
      obtain ⟨hk5, hmay⟩ := HCAN.out L[k] (List.getElem_mem hkL)
      obtain ⟨⟨tk, ts, ta⟩, ht⟩ : ∃ t, t = L[k] := ⟨_, rfl⟩
      rw [← ht] at c0 c1 c2 hk5 hmay
      have e5 : (tk == 5) = false := by simpa using hk5
      have HM : Hid (∀ wx, Below w.heap.size w wx → Calls Tryd.prog 22 #[.agg #[.int .i64 tk, .string ts, .int .i64 ta]] wx fun e w' => e = .returned (.bool true) ∧ Below wx.heap.size wx w' ∧ Below w.heap.size w w') := fun wx hx => by
        refine (may_any tk ts ta wx (HE.out.below hx)).mono ?_
        rintro e w' ⟨rfl, hb⟩
        exact ⟨by rw [hmay], hb, hx.trans (hb.mono hx.size)⟩
      have v1 : (k : Int) < (n : Int) := by omega
      have v2 : (1 : Int) ≤ (n : Int) := by omega
      have hB1 := fun o => HB.out.alloc HB.out.size o
      clear ht hmay hk5
      go_wp2_with (go_at_call 22; refine (HM.out _ (hB1 _)).mono ?_; rintro e w1 ⟨rfl, hb1, hB2⟩; have f0 : w1.cell? ⟨wr.heap.size, 0, none⟩ = some (.int .i64 tk) := (hb1.cell (p := ⟨wr.heap.size, 0, none⟩) (by simp)).trans (by simp [go_sem]))
      go_roundw
      case rel => exact ⟨k + 1, by omega, by go_num, hB2⟩
      case measure => simp [intOf]; omega
    · have hkn : k = n := by omega
      have HBA := HB
      clear HB0
      obtain ⟨wa, hwa⟩ : ∃ wa, wa = wr := ⟨_, rfl⟩
      rw [← hwa] at HBA
      clear HB
      rw [← hwa]
      clear hwa
      go_wp2
      go_loopw [7, 37] (fun bv iv wr => ∃ k : Nat, k ≤ n ∧ iv = .int .i64 k ∧ Below w.heap.size w wr ∧ wr.ownsRow w.heap.size 5 1 bv (outL ((L.take k).map spl3)).length (Lib.byteCells (outL ((L.take k).map spl3)))) (fun _ iv _ => n - (intOf iv).toNat)
      case atStart => exact ⟨0, Nat.zero_le _, rfl, HBA.out, by simpa [outL, Lib.byteCells] using World.ownsRow_nil _ _ _ _⟩
      case round =>
        clear hkn hlt hk
        obtain ⟨k, hk, rfl, hb, hown⟩ := hrel
        have HB := Lib.hid hb
        have HOWN := Lib.hid hown
        clear hb hown
        by_cases hlt : k < n
        · have hkL : k < L.length := by rw [← show n = _ from HN.out]; exact hlt
          obtain ⟨b, o, rfl, c0, c1, c2⟩ := (HTA.out.below HB.out) k hkL
          obtain ⟨hk5, hmay⟩ := HCAN.out L[k] (List.getElem_mem hkL)
          obtain ⟨⟨tk, ts, ta⟩, ht⟩ : ∃ t, t = L[k] := ⟨_, rfl⟩
          rw [← ht] at c0 c1 c2 hk5 hmay
          have hnext : outL ((L.take (k + 1)).map spl3) = if k = 0 then spellL tk ts.data.toList else outL ((L.take k).map spl3) ++ 32 :: spellL tk ts.data.toList := by
            rw [List.take_succ_eq_append_getElem hkL, ← ht, List.map_append]
            by_cases h0 : k = 0
            · subst h0; simp [outL, spl3]
            · rw [if_neg h0]
              exact outL_snoc (by simp; exact ⟨h0, fun h => by rw [h] at hkL; simp at hkL⟩) _
          have hbound : (outL ((L.take (k + 1)).map spl3)).length ≤ 4096 := Nat.le_trans (outL_take L (k + 1)) HSZ.out
          have e5 : (tk == 5) = false := by simpa using hk5
          have HSP : Hid (∀ wx, Below w.heap.size w wx → Calls Tryd.prog 23 #[.agg #[.int .i64 tk, .string ts, .int .i64 ta]] wx fun e w' => e = .returned (.string ⟨(spellL tk ts.data.toList).toArray⟩) ∧ Below wx.heap.size wx w' ∧ Below w.heap.size w w') := fun wx hx => by
            refine (spelling_any tk ts ta wx (HE.out.below hx)).mono ?_
            rintro e w' ⟨rfl, hb⟩
            exact ⟨rfl, hb, hx.trans (hb.mono hx.size)⟩
          obtain ⟨A, hA⟩ : ∃ A, A = outL ((L.take k).map spl3) := ⟨_, rfl⟩
          obtain ⟨P, hP⟩ : ∃ P : ByteArray, P = ⟨(spellL tk ts.data.toList).toArray⟩ := ⟨_, rfl⟩
          have hPl : P.data.toList = spellL tk ts.data.toList := by rw [hP]
          rw [← hP] at HSP
          rw [← hA, ← hPl] at hnext
          rw [← hA] at HOWN
          have HNX := Lib.hid hnext
          have HBD := Lib.hid hbound
          have v1 : (k : Int) < (n : Int) := by omega
          have hB1 := fun o => HB.out.alloc HB.out.size o
          have hPz : P.data.toList.length = P.size := by simp
          have hAz : A.length + 1 + P.size ≤ 4097 := by
            have := hbound
            rw [hnext] at this
            split at this
            · rename_i h0
              have hA0 : A = [] := by rw [hA, h0]; simp [outL]
              rw [hA0]
              simp at this ⊢
              omega
            · simp at this
              omega
          have HA := Lib.hid hA
          clear ht hmay hk5 hnext hbound hA hP hPl hPz
          by_cases h0 : k = 0
          · have g0 : decide (0 < k) = false := by simp; omega
            have H0 := Lib.hid h0
            clear h0
            go_wp2_with (first | (go_at_call 23; go_loud (refine (HSP.out _ (hB1 _)).mono ?_; rintro e w1 ⟨rfl, hb1, hB2⟩; have f0 : w1.cell? ⟨wr.heap.size, 0, none⟩ = some (.int .i64 tk) := (hb1.cell (p := ⟨wr.heap.size, 0, none⟩) (by simp)).trans (by simp [go_sem]); have HO1 := own_below (World.ownsRow.alloc HOWN.out _) hb1)) | (at_builtin; refine Lib.wpList_append_own_string _ rfl _ _ 22 9 rfl _ 5 i0 Tryd.underlying22 Tryd.underlying9 hi hz0 hz1 hz2 _ _ _ rfl HO1 P rfl (by unfold maxLen; omega) (by omega) hB2.size ?_; intro v2 w2 hown2 hgrow2 _; refine Hid.out ?_))
            refine Lib.hid ?_
            have hb3 := hB2.grown hgrow2 hB2.size (fun j hj => (World.ownsRow.lt HO1 j hj).1)
            have hown3 : w2.ownsRow w.heap.size 5 1 v2 (outL ((L.take (k + 1)).map spl3)).length (Lib.byteCells (outL ((L.take (k + 1)).map spl3))) := by
              rw [HNX.out, if_pos H0.out]
              have hA0 : A = [] := by rw [HA.out, H0.out]; simp [outL]
              have e1 : Lib.byteCells (P.data.toList) = Lib.byteCells A ++ Lib.byteCells P.data.toList := by rw [hA0]; simp [Lib.byteCells]
              have e2 : (P.data.toList).length = A.length + P.size := by rw [hA0]; simp
              rw [e1, e2]
              exact hown2
            have hlen := own_len hown3
            obtain ⟨z, hz⟩ : ∃ z, z = (outL ((L.take (k + 1)).map spl3)).length := ⟨_, rfl⟩
            have hbz : z ≤ 4096 := by rw [hz]; exact HBD.out
            have hlen2 : ∀ wx, (Builtin.len_ #[22] 3 #[v2]).run Tryd.prog wx = .ok (.int .i64 z) wx := by rw [hz]; exact hlen
            have hlim : decide ((4096 : Int) < (z : Int)) = false := by simp; omega
            have hlim2 : (z : Int) ≤ 4096 := by omega
            have HB3 := Lib.hid hb3
            have HOW3 := Lib.hid hown3
            clear hb3 hown3 hown2 hgrow2 hlen hz
            have hlen3 := hlen2 w2
            go_wp2
            go_roundw
            case rel => exact ⟨k + 1, by omega, by go_num, HB3.out, HOW3.out⟩
            case measure => simp [intOf]; omega
          · have g0 : 0 < k := by omega
            have H0 := Lib.hid h0
            clear h0
            have hm1 : A.length + 1 ≤ maxLen := by unfold maxLen; omega
            go_wp2_with (at_builtin; refine wpList_append_own _ rfl _ _ 22 rfl w.heap.size 5 i0 (.int .u8 0) 1 1 Tryd.underlying22 hi hz0 hz1 hz2 rfl (by decide) _ _ _ rfl (World.ownsRow.alloc (World.ownsRow.alloc HOWN.out _) _) ⟨wr.heap.size + 1, 0, none⟩ 1 1 (u8s [32]) rfl rfl (lit_at _ _ (by simp) _ _) (u8s_one _) hm1 (by omega) (by have := HB.out.size; simp; omega) ?_; intro v0 w0 hown0 hgrow0 _; refine Hid.out ?_)
            refine Lib.hid ?_
            have hB0 : Below w.heap.size w w0 := ((HB.out.alloc HB.out.size _).alloc (by have := HB.out.size; simp; omega) _).grown hgrow0 (by have := HB.out.size; simp; omega) (fun j hj => (World.ownsRow.lt HOWN.out j hj).1)
            have fz : ∀ j v, (wr.alloc (.cells #[.int .i64 tk, .string ts, .int .i64 ta] 28)).cell? ⟨wr.heap.size, j, none⟩ = some v → w0.cell? ⟨wr.heap.size, j, none⟩ = some v := by
              intro j v hv
              refine (World.cell?_of_block (a := ⟨wr.heap.size, j, none⟩) (hgrow0.block wr.heap.size (by simp; omega) (fun e => by have := (World.ownsRow.lt HOWN.out _ e.symm).2; omega))).trans ?_
              refine (((Below.refl (wr.alloc (.cells #[.int .i64 tk, .string ts, .int .i64 ta] 28)).heap.size (wr.alloc (.cells #[.int .i64 tk, .string ts, .int .i64 ta] 28))).alloc (Nat.le_refl _) _).cell (p := ⟨wr.heap.size, j, none⟩) (by simp)).trans hv
            have f00 := fz 0 _ (by simp [go_sem]; rfl)
            have f01 := fz 1 _ (by simp [go_sem]; rfl)
            have f02 := fz 2 _ (by simp [go_sem]; rfl)
            clear hgrow0 fz
            go_wp2_with (first | (go_at_call 23; refine (HSP.out _ hB0).mono ?_; rintro e w1 ⟨rfl, hb1, hB2⟩; have HO1 := own_below hown0 hb1) | (at_builtin; refine Lib.wpList_append_own_string _ rfl _ _ 22 9 rfl _ 5 i0 Tryd.underlying22 Tryd.underlying9 hi hz0 hz1 hz2 _ _ _ rfl HO1 P rfl (by unfold maxLen; omega) (by omega) hB2.size ?_; intro v2 w2 hown2 hgrow2 _; refine Hid.out ?_))
            refine Lib.hid ?_
            have hb3 := hB2.grown hgrow2 hB2.size (fun j hj => (World.ownsRow.lt HO1 j hj).1)
            have hown3 : w2.ownsRow w.heap.size 5 1 v2 (outL ((L.take (k + 1)).map spl3)).length (Lib.byteCells (outL ((L.take (k + 1)).map spl3))) := by
              rw [HNX.out, if_neg H0.out]
              have e1 : Lib.byteCells (A ++ 32 :: P.data.toList) = (Lib.byteCells A ++ u8s [32]) ++ Lib.byteCells P.data.toList := by simp [Lib.byteCells, u8s]
              have e2 : (A ++ 32 :: P.data.toList).length = A.length + 1 + P.size := by simp; omega
              rw [e1, e2]
              exact hown2
            have hlen := own_len hown3
            obtain ⟨z, hz⟩ : ∃ z, z = (outL ((L.take (k + 1)).map spl3)).length := ⟨_, rfl⟩
            have hbz : z ≤ 4096 := by rw [hz]; exact HBD.out
            have hlen2 : ∀ wx, (Builtin.len_ #[22] 3 #[v2]).run Tryd.prog wx = .ok (.int .i64 z) wx := by rw [hz]; exact hlen
            have hlim : decide ((4096 : Int) < (z : Int)) = false := by simp; omega
            have hlim2 : (z : Int) ≤ 4096 := by omega
            have HB3 := Lib.hid hb3
            have HOW3 := Lib.hid hown3
            clear hb3 hown3 hown2 hgrow2 hlen hz
            have hlen3 := hlen2 w2
            go_wp2
            go_roundw
            case rel => exact ⟨k + 1, by omega, by go_num, HB3.out, HOW3.out⟩
            case measure => simp [intOf]; omega
        · have hkn : k = L.length := by rw [← show n = _ from HN.out]; omega
          have hcv := own_conv HOWN.out
          rw [show L.take k = L by rw [hkn]; exact List.take_of_length_le (Nat.le_refl _)] at hcv
          have HCV := Lib.hid hcv
          obtain ⟨S, hS⟩ : ∃ S : ByteArray, S = ⟨(outL (L.map spl3)).toArray⟩ := ⟨_, rfl⟩
          rw [← hS] at hcv
          have HS := Lib.hid hS
          clear hkn hS
          go_wp2
          go_ret2
          exact ⟨by rw [← HS.out]; rfl, HB.out⟩
end Go.Proofs.YtdafnkfnaknoiaaDoor
