/- The walk of TokenLimits. -/
import Derived.Test.YtdafnkfnaknoiaaDoorL4
import Derived.Deep.CutBlock
namespace Go.Proofs.YtdafnkfnaknoiaaDoor
open Go Go.RowKit
set_option maxHeartbeats 2000000
set_option linter.unusedVariables false
set_option linter.unusedSimpArgs false
/-- strings by their bytes -/
def Is (v : Value) (l : List UInt8) : Prop := ∃ s : ByteArray, v = .string s ∧ s.data.toList = l
theorem mod40 (n : Int) : ∃ m : Nat, m < 40 ∧ (Int.tmod n 40 < 0 → wrap64 (-Int.tmod n 40) = (m : Int)) ∧ (¬ Int.tmod n 40 < 0 → Int.tmod n 40 = (m : Int)) := by
  have h1 : Int.tmod n 40 < 40 := by
    by_cases h : 0 ≤ n
    · rw [Int.tmod_eq_emod_of_nonneg h]; omega
    · have e : Int.tmod n 40 = -(Int.tmod (-n) 40) := by rw [Int.neg_tmod]; omega
      rw [e, Int.tmod_eq_emod_of_nonneg (by omega)]; omega
  have h2 : -40 < Int.tmod n 40 := by
    by_cases h : 0 ≤ n
    · rw [Int.tmod_eq_emod_of_nonneg h]; omega
    · have e : Int.tmod n 40 = -(Int.tmod (-n) 40) := by rw [Int.neg_tmod]; omega
      rw [e, Int.tmod_eq_emod_of_nonneg (by omega)]; omega
  obtain ⟨q, hq⟩ : ∃ q, q = Int.tmod n 40 := ⟨_, rfl⟩
  rw [← hq] at h1 h2 ⊢
  by_cases h : q < 0
  · refine ⟨(-q).toNat, by omega, fun _ => ?_, fun h' => absurd h h'⟩
    unfold wrap64
    omega
  · exact ⟨q.toNat, by omega, fun h' => absurd h' h, fun _ => by omega⟩
theorem conv_one (W : World) (x : Int) (c : UInt8) (h : x = (c.toNat : Int)) : (convert 22 9 (.slice (some ⟨W.heap.size, 0, none⟩) 1 1)).run Tryd.prog (W.alloc (.cells #[.int .u8 x] 5)) = .ok (.string ⟨#[c]⟩) (W.alloc (.cells #[.int .u8 x] 5)) := by
  subst h
  exact run_convert_bytes_back (P := Tryd.prog) (W.alloc (.cells #[.int .u8 (c.toNat : Int)] 5)) 22 9 5 ⟨W.heap.size, 0, none⟩ 1 [c] Tryd.underlying22 Tryd.underlying5 Tryd.underlying9 (fun j hj => by
    have : j = 0 := by simpa using hj
    subst this
    exact lit_cells W [.int .u8 (c.toNat : Int)] 5 0 _ rfl)
/-- token.Scan where nothing below has turned: a fault -/
theorem scan_bad_at (T : ByteArray) (E : Int) (q : Nat) (hX : scanL T.data.toList = .bad E q) (wc : World) (he : Errs wc) (wx : World) (hb : Below wc.heap.size wc wx) : Calls Tryd.prog 9 #[.string T] wx
    fun e w' => e = .returned (.tuple #[.slice none 0 0, .int .i64 q, .int .i64 E]) ∧ Below wx.heap.size wx w' ∧ Below wc.heap.size wc w' := by
  refine (scan_any T wx (he.below hb)).mono ?_
  rintro e w' ⟨h1, h2⟩
  rw [hX] at h2
  exact ⟨h2.2, h1, hb.trans (h1.mono hb.size)⟩
/-- tokens lie there -/
def Lie (w : World) (g : Nat) (L : List Tk) : Prop := ∀ (i : Nat) (v : Value), (tkCells L)[i]? = some v → w.cell? ⟨g, i, none⟩ = some v
theorem Lie.below {w w' : World} {g : Nat} {L : List Tk} (h : Lie w g L) (hb : Below w.heap.size w w') : Lie w' g L := fun i v hi => by
  have h1 := h i v hi
  exact (hb.cell (p := ⟨g, i, none⟩) (lt_of_cell h1)).trans h1
theorem scan_ok_at (T : ByteArray) (L : List Tk) (hL : L ≠ []) (hX : scanL T.data.toList = .ok L) (wc : World) (he : Errs wc) (wx : World) (hb : Below wc.heap.size wc wx) : Calls Tryd.prog 9 #[.string T] wx
    fun e w' => (∃ g cap, e = .returned (.tuple #[.slice (some ⟨g, 0, none⟩) L.length cap, .int .i64 0, .int .i64 0]) ∧ Lie w' g L) ∧ Below wx.heap.size wx w' ∧ Below wc.heap.size wc w' := by
  refine (scan_any T wx (he.below hb)).mono ?_
  rintro e w' ⟨h1, h2⟩
  rw [hX] at h2
  obtain ⟨v, rfl, hown⟩ := h2
  obtain ⟨g, cap, rfl⟩ := Joins.ownsRow_form hown (List.length_pos_iff.2 hL)
  refine ⟨⟨g, cap, rfl, fun i v hi => ?_⟩, h1, hb.trans (h1.mono hb.size)⟩
  have h3 := hown.cells (g := g) rfl i v hi
  have e : (⟨g, 0, none⟩ : Addr).add i = ⟨g, i, none⟩ := by unfold Addr.add; split <;> simp_all
  rw [e] at h3
  exact h3
set_option maxRecDepth 100000 in
theorem limits_walk (n : Int) (w : World) (he : Errs w) : Calls Tryd.prog 4 #[.int .i64 n] w fun e w' => e = .returned (.bool true) ∧ Below w.heap.size w w' := by
  have HE := Lib.hid he
  clear he
  obtain ⟨m, hm, hm1, hm2⟩ := mod40 n
  have HM1 := Lib.hid hm1
  have HM2 := Lib.hid hm2
  clear hm1 hm2
  obtain ⟨bn, hbn⟩ : ∃ bn, decide (Int.tmod n 40 < 0) = bn := ⟨_, rfl⟩
  have HBN := Lib.hid hbn
  go_enter Tryd.func4, Tryd.ntmps4
  go_upto_if 36 with fail
  go_cut [0] from 37 to 39 (fun s0 wx => s0 = .int .i64 m ∧ wx = w)
  case first =>
    clear hbn
    cases bn
    · have e1 := Lib.hid (HM2.out (by simpa using HBN.out))
      go_wp2_with fail
      go_meet
      case rel => exact ⟨by rw [e1.out], rfl⟩
    · have e1 := Lib.hid (HM1.out (by simpa using HBN.out))
      go_wp2_with fail
      go_meet
      case rel => exact ⟨by rw [e1.out], rfl⟩
  case rest =>
    obtain ⟨rfl, rfl⟩ := hcut
    clear hbn
    have HB0 : Hid (Below wc.heap.size wc wc) := Below.refl _ _
    go_wp2
    go_loopw [3, 4] (fun wv iv wr => ∃ k : Nat, k ≤ 32 ∧ Is wv (wordM m k) ∧ iv = .int .i64 k ∧ Below wc.heap.size wc wr) (fun _ iv _ => 32 - (intOf iv).toNat)
    case atStart => exact ⟨0, by omega, ⟨⟨#[]⟩, rfl, rfl⟩, rfl, HB0.out⟩
    case round =>
      obtain ⟨k, hk, ⟨S, rfl, hS⟩, rfl, hb⟩ := hrel
      have HS := Lib.hid hS
      have HB := Lib.hid hb
      have hsz : (S.size : Int) ≤ 32 := by have := size_of hS; rw [wordM_len] at this; omega
      clear hS hb
      by_cases hlt : k < 32
      · have v1 : (m : Int) + (k : Int) ≤ 100 := by omega
        have hcv := conv_one wr (97 + ((m : Int) + (k : Int)) % 26) (chM m k) (by rw [chM_nat]; omega)
        go_wp2
        go_roundw
        case rel => exact ⟨k + 1, by omega, ⟨_, rfl, by show (S ++ ⟨#[chM m k]⟩ : ByteArray).data.toList = _; rw [wordM, ← HS.out]; simp⟩, by go_num, HB.out.alloc HB.out.size _⟩
        case measure => simp [intOf]; omega
      · have hk2 : k = 32 := by omega
        subst hk2
        obtain ⟨W, hW⟩ : ∃ W, W = S := ⟨_, rfl⟩
        rw [← hW] at HS hsz
        have hWz : W.size = 32 := by have := size_of HS.out; rw [wordM_len] at this; exact this
        have HW := HS
        rw [← hW]
        clear hW hlt hk HS hsz
        obtain ⟨w1, hw1⟩ : ∃ w1, w1 = wr := ⟨_, rfl⟩
        rw [← hw1] at HB
        have HB1 := HB
        rw [← hw1]
        clear hw1 HB
        go_wp2
        go_loopw [5, 6] (fun gv iv wx => ∃ j : Nat, j ≤ m ∧ Is gv (List.replicate j 32) ∧ iv = .int .i64 j ∧ wx = w1) (fun _ iv _ => m - (intOf iv).toNat)
        case atStart => exact ⟨0, by omega, ⟨⟨#[]⟩, rfl, rfl⟩, rfl, rfl⟩
        case round =>
          obtain ⟨j, hj, ⟨G, rfl, hG⟩, rfl, rfl⟩ := hrel
          have HG := Lib.hid hG
          have hsz : (G.size : Int) ≤ 40 := by have := size_of hG; rw [List.length_replicate] at this; omega
          clear hG
          by_cases hlt : j < m
          · have e1 : decide ((j : Int) < (m : Int)) = true := by simp; omega
            go_wp2
            go_roundw
            case rel => exact ⟨j + 1, by omega, ⟨_, rfl, by show (G ++ ⟨#[32]⟩ : ByteArray).data.toList = _; rw [List.replicate_succ', ← HG.out]; simp⟩, by go_num, by first | rfl | trivial⟩
            case measure => simp [intOf]; omega
          · have hj2 : j = m := by omega
            subst hj2
            have e1 : decide ((j : Int) < (j : Int)) = false := by simp
            have hGz : G.size = j := by have := size_of HG.out; rw [List.length_replicate] at this; exact this
            clear hlt hj hsz
            go_wp2
            go_loopw [7] (fun lv wx => ∃ k : Nat, k ≤ 4096 ∧ Is lv (List.replicate k 32) ∧ wx = wr) (fun lv _ => 4096 - strSize lv)
            case atStart => exact ⟨0, by omega, ⟨⟨#[]⟩, rfl, rfl⟩, rfl⟩
            case round =>
              obtain ⟨k, hk, ⟨Q, rfl, hQ⟩, rfl⟩ := hrel
              have HQ := Lib.hid hQ
              have hqz : Q.size = k := by have := size_of hQ; rw [List.length_replicate] at this; exact this
              have hsz : (Q.size : Int) ≤ 4096 := by omega
              clear hQ
              by_cases hlt : k < 4096
              · have e1 : decide ((Q.size : Int) < 4096) = true := by simp; omega
                have HQZ := Lib.hid hqz
                clear hqz
                go_wp2
                go_roundw
                case rel => exact ⟨k + 1, by omega, ⟨_, rfl, by show (Q ++ ⟨#[32]⟩ : ByteArray).data.toList = _; rw [List.replicate_succ', ← HQ.out]; simp⟩, by first | rfl | trivial⟩
                case measure => have := HQZ.out; show 4096 - (Q ++ ⟨#[32]⟩ : ByteArray).size < 4096 - Q.size; rw [ByteArray.size_append]; show 4096 - (Q.size + 1) < _; omega
              · have hk2 : k = 4096 := by omega
                have e1 : decide ((Q.size : Int) < 4096) = false := by simp; omega
                have HK := Lib.hid hk2
                have bk : ((k : Int) == 4096) = true := by simp [hk2]
                have bk2 : ((k : Int) != 4096) = false := by simp [hk2]
                have hqz2 : (Q.size : Int) = 4096 := by omega
                have HQZ := Lib.hid hqz2
                have hGz2 : (G.size : Int) ≤ 40 := by omega
                have H1 : Hid (∀ wx, Below wc.heap.size wc wx → Calls Tryd.prog 9 #[.string (G ++ W)] wx fun e w' => (∃ g cap, e = .returned (.tuple #[.slice (some ⟨g, 0, none⟩) 2 cap, .int .i64 0, .int .i64 0]) ∧ Lie w' g [(1, wordM j 32, j), (5, [], j + 32)]) ∧ Below wx.heap.size wx w' ∧ Below wc.heap.size wc w') := fun wx hx => scan_ok_at (G ++ W) [(1, wordM j 32, j), (5, [], j + 32)] (by simp) (by rw [show (G ++ W).data.toList = G.data.toList ++ W.data.toList by simp, HG.out, HW.out]; exact lim1 j hm) wc HE.out wx hx
                have H2 : Hid (∀ wx, Below wc.heap.size wc wx → Calls Tryd.prog 9 #[.string (G ++ W ++ (⟨#[57]⟩ : ByteArray))] wx fun e w' => e = .returned (.tuple #[.slice none 0 0, .int .i64 j, .int .i64 51]) ∧ Below wx.heap.size wx w' ∧ Below wc.heap.size wc w') := fun wx hx => scan_bad_at (G ++ W ++ (⟨#[57]⟩ : ByteArray)) 51 j (by rw [show (G ++ W ++ (⟨#[57]⟩ : ByteArray)).data.toList = G.data.toList ++ W.data.toList ++ [57] by simp, HG.out, HW.out]; exact lim2 j hm) wc HE.out wx hx
                have H3 : Hid (∀ wx, Below wc.heap.size wc wx → Calls Tryd.prog 9 #[.string ⟨#[57, 50, 50, 51, 51, 55, 50, 48, 51, 54, 56, 53, 52, 55, 55, 53, 56, 48, 55]⟩] wx fun e w' => (∃ g cap, e = .returned (.tuple #[.slice (some ⟨g, 0, none⟩) 2 cap, .int .i64 0, .int .i64 0]) ∧ Lie w' g [(2, [57, 50, 50, 51, 51, 55, 50, 48, 51, 54, 56, 53, 52, 55, 55, 53, 56, 48, 55], 0), (5, [], 19)]) ∧ Below wx.heap.size wx w' ∧ Below wc.heap.size wc w') := fun wx hx => scan_ok_at ⟨#[57, 50, 50, 51, 51, 55, 50, 48, 51, 54, 56, 53, 52, 55, 55, 53, 56, 48, 55]⟩ [(2, [57, 50, 50, 51, 51, 55, 50, 48, 51, 54, 56, 53, 52, 55, 55, 53, 56, 48, 55], 0), (5, [], 19)] (by simp) (by rw [show (⟨#[57, 50, 50, 51, 51, 55, 50, 48, 51, 54, 56, 53, 52, 55, 55, 53, 56, 48, 55]⟩ : ByteArray).data.toList = [57, 50, 50, 51, 51, 55, 50, 48, 51, 54, 56, 53, 52, 55, 55, 53, 56, 48, 55] from rfl]; exact lim3) wc HE.out wx hx
                have H4 : Hid (∀ wx, Below wc.heap.size wc wx → Calls Tryd.prog 9 #[.string ⟨#[57, 50, 50, 51, 51, 55, 50, 48, 51, 54, 56, 53, 52, 55, 55, 53, 56, 48, 56]⟩] wx fun e w' => e = .returned (.tuple #[.slice none 0 0, .int .i64 0, .int .i64 51]) ∧ Below wx.heap.size wx w' ∧ Below wc.heap.size wc w') := fun wx hx => scan_bad_at ⟨#[57, 50, 50, 51, 51, 55, 50, 48, 51, 54, 56, 53, 52, 55, 55, 53, 56, 48, 56]⟩ 51 0 (by rw [show (⟨#[57, 50, 50, 51, 51, 55, 50, 48, 51, 54, 56, 53, 52, 55, 55, 53, 56, 48, 56]⟩ : ByteArray).data.toList = [57, 50, 50, 51, 51, 55, 50, 48, 51, 54, 56, 53, 52, 55, 55, 53, 56, 48, 56] from rfl]; exact lim4) wc HE.out wx hx
                have H5 : Hid (∀ wx, Below wc.heap.size wc wx → Calls Tryd.prog 9 #[.string Q] wx fun e w' => (∃ g cap, e = .returned (.tuple #[.slice (some ⟨g, 0, none⟩) 1 cap, .int .i64 0, .int .i64 0]) ∧ Lie w' g [(5, [], k)]) ∧ Below wx.heap.size wx w' ∧ Below wc.heap.size wc w') := fun wx hx => scan_ok_at Q [(5, [], k)] (by simp) (by rw [HQ.out]; exact lim5k k HK.out) wc HE.out wx hx
                have H6 : Hid (∀ wx, Below wc.heap.size wc wx → Calls Tryd.prog 9 #[.string (Q ++ (⟨#[32]⟩ : ByteArray))] wx fun e w' => e = .returned (.tuple #[.slice none 0 0, .int .i64 0, .int .i64 2]) ∧ Below wx.heap.size wx w' ∧ Below wc.heap.size wc w') := fun wx hx => scan_bad_at (Q ++ (⟨#[32]⟩ : ByteArray)) 2 0 (by rw [show (Q ++ (⟨#[32]⟩ : ByteArray)).data.toList = Q.data.toList ++ [32] by simp, HQ.out]; exact lim6k k HK.out) wc HE.out wx hx
                have v256 : 256 ≤ Q.size := by omega
                have hP : (Q.extract 0 256).data.toList = List.replicate 256 32 := by
                  rw [ByteArray.data_extract]
                  simp only [Array.toList_extract, List.extract_eq_take_drop, HQ.out]
                  rw [hk2]
                  simp
                have hPz : ((Q.extract 0 256).size : Int) = 256 := by have := size_of hP; rw [List.length_replicate] at this; omega
                have H7 : Hid (∀ wx, Below wc.heap.size wc wx → Calls Tryd.prog 9 #[.string (G ++ (⟨#[34]⟩ : ByteArray) ++ Q.extract 0 256 ++ (⟨#[34]⟩ : ByteArray))] wx fun e w' => (∃ v, e = .returned (.tuple #[v, .int .i64 0, .int .i64 0])) ∧ Below wc.heap.size wc w') := fun wx hx => by
                  refine (scan_any (G ++ (⟨#[34]⟩ : ByteArray) ++ Q.extract 0 256 ++ (⟨#[34]⟩ : ByteArray)) wx (HE.out.below hx)).mono ?_
                  rintro e w' ⟨h1, h2⟩
                  refine ⟨?_, hx.trans (h1.mono hx.size)⟩
                  obtain ⟨L, hL⟩ := lim7 j hm
                  rw [show (G ++ (⟨#[34]⟩ : ByteArray) ++ Q.extract 0 256 ++ (⟨#[34]⟩ : ByteArray)).data.toList = G.data.toList ++ [34] ++ (Q.extract 0 256).data.toList ++ [34] by simp only [ByteArray.data_append, Array.toList_append], HG.out, hP, hL] at h2
                  obtain ⟨v, h3, _⟩ := h2
                  exact ⟨v, h3⟩
                have H8 : Hid (∀ wx, Below wc.heap.size wc wx → Calls Tryd.prog 9 #[.string (G ++ (⟨#[34]⟩ : ByteArray) ++ Q.extract 0 256 ++ (⟨#[32, 34]⟩ : ByteArray))] wx fun e w' => e = .returned (.tuple #[.slice none 0 0, .int .i64 j, .int .i64 51]) ∧ Below wx.heap.size wx w' ∧ Below wc.heap.size wc w') := fun wx hx => scan_bad_at (G ++ (⟨#[34]⟩ : ByteArray) ++ Q.extract 0 256 ++ (⟨#[32, 34]⟩ : ByteArray)) 51 j (by
                  rw [show (G ++ (⟨#[34]⟩ : ByteArray) ++ Q.extract 0 256 ++ (⟨#[32, 34]⟩ : ByteArray)).data.toList = G.data.toList ++ [34] ++ (Q.extract 0 256).data.toList ++ [32, 34] by simp only [ByteArray.data_append, Array.toList_append], HG.out, hP]
                  exact lim8 j hm) wc HE.out wx hx
                clear hP
                clear hlt hk hqz hk2 hqz2
                go_wp2_with fail
                refine (H1.out _ HB1.out).mono ?_
                rintro e w1 ⟨⟨g1, k1, rfl, hL1⟩, hb1, hB1⟩
                have HL1 := Lib.hid hL1
                clear hL1 hb1
                go_wp2_with fail
                refine (H2.out _ hB1).mono ?_
                rintro e w2 ⟨rfl, hb2, hB2⟩
                have HL2 := Lib.hid (HL1.out.below hb2)
                clear hb2 hB1
                go_wp2_with fail
                refine (H3.out _ hB2).mono ?_
                rintro e w3 ⟨⟨g3, k3, rfl, -⟩, hb3, hB3⟩
                have HL3 := Lib.hid (HL2.out.below hb3)
                clear hb3 hB2
                go_wp2_with fail
                refine (H4.out _ hB3).mono ?_
                rintro e w4 ⟨rfl, hb4, hB4⟩
                have HL4 := Lib.hid (HL3.out.below hb4)
                clear hb4 hB3
                go_wp2_with fail
                refine (H5.out _ hB4).mono ?_
                rintro e w5 ⟨⟨g5, k5, rfl, hL5⟩, hb5, hB5⟩
                have HL5 := Lib.hid (HL4.out.below hb5)
                have HX5 := Lib.hid hL5
                clear hb5 hB4 hL5
                go_wp2_with fail
                refine (H6.out _ hB5).mono ?_
                rintro e w6 ⟨rfl, hb6, hB6⟩
                have c1 := HL5.out.below hb6 2 _ rfl
                have c5 := HX5.out.below hb6 2 _ rfl
                clear hb6 hB5
                go_wp2_with fail
                refine (H7.out _ hB6).mono ?_
                rintro e w7 ⟨⟨v7, rfl⟩, hB7⟩
                clear hB6 c1 c5
                go_wp2_with fail
                refine (H8.out _ hB7).mono ?_
                rintro e w8 ⟨rfl, hb8, hB8⟩
                go_wp2_with fail
                go_ret
                exact ⟨rfl, hB8⟩
end Go.Proofs.YtdafnkfnaknoiaaDoor
