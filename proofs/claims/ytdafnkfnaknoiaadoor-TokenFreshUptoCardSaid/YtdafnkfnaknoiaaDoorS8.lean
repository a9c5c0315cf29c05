/- Contract of the laws' plainest. -/
import Derived.Test.YtdafnkfnaknoiaaDoorS7
import Derived.Deep.WholeRow
import Derived.Deep.LoopGhost
import Derived.Deep.CutBlock
import Derived.Great.BuildSlice
namespace Go.Proofs.YtdafnkfnaknoiaaDoor
open Go Go.RowKit
set_option maxHeartbeats 2000000
set_option linter.unusedVariables false
set_option linter.unusedSimpArgs false
abbrev sgA : Array Value := #[.string ⟨#[40]⟩, .string ⟨#[41]⟩, .string ⟨#[91]⟩, .string ⟨#[93]⟩, .string ⟨#[123]⟩, .string ⟨#[125]⟩, .string ⟨#[44]⟩, .string ⟨#[46]⟩, .string ⟨#[46, 46]⟩, .string ⟨#[43]⟩, .string ⟨#[45]⟩, .string ⟨#[42]⟩, .string ⟨#[61]⟩, .string ⟨#[33, 61]⟩, .string ⟨#[60]⟩, .string ⟨#[60, 61]⟩, .string ⟨#[62]⟩, .string ⟨#[62, 61]⟩, .string ⟨#[33]⟩]
abbrev sgZ : Array Value := #[.string ⟨#[]⟩, .string ⟨#[]⟩, .string ⟨#[]⟩, .string ⟨#[]⟩, .string ⟨#[]⟩, .string ⟨#[]⟩, .string ⟨#[]⟩, .string ⟨#[]⟩, .string ⟨#[]⟩, .string ⟨#[]⟩, .string ⟨#[]⟩, .string ⟨#[]⟩, .string ⟨#[]⟩, .string ⟨#[]⟩, .string ⟨#[]⟩, .string ⟨#[]⟩, .string ⟨#[]⟩, .string ⟨#[]⟩, .string ⟨#[]⟩]
def sgC : Array Value := sgA
theorem sgC_size : sgC.size = 19 := by kernel_rfl
theorem st_signs (w : World) (n : Nat) (h : w.heap.size = n) : (storeCells ⟨n, 0, none⟩ sgC.toList 0).run Tryd.prog (w.alloc (.cells #[.string ⟨#[]⟩, .string ⟨#[]⟩, .string ⟨#[]⟩, .string ⟨#[]⟩, .string ⟨#[]⟩, .string ⟨#[]⟩, .string ⟨#[]⟩, .string ⟨#[]⟩, .string ⟨#[]⟩, .string ⟨#[]⟩, .string ⟨#[]⟩, .string ⟨#[]⟩, .string ⟨#[]⟩, .string ⟨#[]⟩, .string ⟨#[]⟩, .string ⟨#[]⟩, .string ⟨#[]⟩, .string ⟨#[]⟩, .string ⟨#[]⟩] 59)) = .ok () (w.alloc (.cells sgC 59)) := by
  subst h
  exact run_storeCells_new w 59 sgZ sgC (by kernel_rfl) rfl (by kernel_rfl)
attribute [local go_sem ↓] st_signs
attribute [local go_sem] sgC_size
theorem built_signs : Tryd.prog.built 59 [(0, .string ⟨#[40]⟩), (1, .string ⟨#[41]⟩), (2, .string ⟨#[91]⟩), (3, .string ⟨#[93]⟩), (4, .string ⟨#[123]⟩), (5, .string ⟨#[125]⟩), (6, .string ⟨#[44]⟩), (7, .string ⟨#[46]⟩), (8, .string ⟨#[46, 46]⟩), (9, .string ⟨#[43]⟩), (10, .string ⟨#[45]⟩), (11, .string ⟨#[42]⟩), (12, .string ⟨#[61]⟩), (13, .string ⟨#[33, 61]⟩), (14, .string ⟨#[60]⟩), (15, .string ⟨#[60, 61]⟩), (16, .string ⟨#[62]⟩), (17, .string ⟨#[62, 61]⟩), (18, .string ⟨#[33]⟩)] = some sgC := by kernel_rfl
/-- bytes that may be a word, or none -/
def WordOk (bs : List UInt8) : Prop := (∀ x ∈ bs, isW x = true) ∧ ∀ c t, bs = c :: t → dgB c = false
/-- a byte that is kept -/
def keepB (c : Nat) (any : Bool) : Bool := (decide (97 ≤ c) && decide (c ≤ 122)) || (decide (65 ≤ c) && decide (c ≤ 90)) || c == 95 || (decide (48 ≤ c) && decide (c ≤ 57) && any)
theorem keep_word {bs : List UInt8} (h : WordOk bs) (c : UInt8) (hk : keepB c.toNat (decide (0 < bs.length)) = true) : WordOk (bs ++ [c]) := by
  have hw : isW c = true := by
    unfold keepB at hk
    unfold isW wch ltr dgt
    simp at hk ⊢
    omega
  refine ⟨fun x hx => ?_, fun d t hd => ?_⟩
  · rcases List.mem_append.1 hx with hx | hx
    · exact h.1 x hx
    · simp at hx; rw [hx]; exact hw
  · cases bs with
    | nil =>
      simp at hd
      rw [← hd.1]
      unfold keepB at hk
      cases hq : dgB c
      · rfl
      · have := dgB_iff.1 hq
        simp at hk
        omega
    | cons a bs =>
      simp at hd
      rw [← hd.1]
      exact h.2 a bs rfl
/-- where plainest's loop stands -/
structure PRel (B : Nat) (wE : World) (s : ByteArray) (bv : Value) (i m : Nat) (bs : List UInt8) (wr : World) : Prop where
  le : i ≤ s.size
  sum : m ≤ 255 * i
  ok : WordOk bs
  len : bs.length ≤ i
  own : wr.ownsRow B 5 1 bv bs.length (Lib.byteCells bs)
  below : Below B wE wr
/-- what plainest gives -/
def PlainTok (k : Int) (s : List UInt8) : Prop := (k = 1 ∧ WordOk s ∧ s ≠ [] ∧ s.length ≤ 32) ∨ (k = 2 ∧ Digits s ∧ s.length ≤ 3) ∨ (k = 3 ∧ s.length ≤ 200) ∨ (k = 4 ∧ ∃ j, j < 19 ∧ sgC[j]? = some (.string ⟨s.toArray⟩))
theorem mod4 (n : Int) : -4 < Int.tmod n 4 ∧ ∃ m : Nat, m < 4 ∧ (Int.tmod n 4 < 0 → Int.tmod n 4 + 4 = (m : Int)) ∧ (¬ Int.tmod n 4 < 0 → Int.tmod n 4 = (m : Int)) := by
  have h1 : Int.tmod n 4 < 4 := by
    by_cases h : 0 ≤ n
    · rw [Int.tmod_eq_emod_of_nonneg h]; omega
    · have e : Int.tmod n 4 = -(Int.tmod (-n) 4) := by rw [Int.neg_tmod]; omega
      rw [e, Int.tmod_eq_emod_of_nonneg (by omega)]; omega
  have h2 : -4 < Int.tmod n 4 := by
    by_cases h : 0 ≤ n
    · rw [Int.tmod_eq_emod_of_nonneg h]; omega
    · have e : Int.tmod n 4 = -(Int.tmod (-n) 4) := by rw [Int.neg_tmod]; omega
      rw [e, Int.tmod_eq_emod_of_nonneg (by omega)]; omega
  refine ⟨h2, ?_⟩
  obtain ⟨q, hq⟩ : ∃ q, q = Int.tmod n 4 := ⟨_, rfl⟩
  rw [← hq] at h1 h2 ⊢
  by_cases h : q < 0
  · exact ⟨(q + 4).toNat, by omega, fun _ => by omega, fun h' => absurd h h'⟩
  · exact ⟨q.toNat, by omega, fun h' => absurd h' h, fun _ => by omega⟩
theorem sgC_at (j : Nat) (h : j < 19) : ∃ S : ByteArray, sgC[j]? = some (.string S) := by
  have hj : j = 0 ∨ j = 1 ∨ j = 2 ∨ j = 3 ∨ j = 4 ∨ j = 5 ∨ j = 6 ∨ j = 7 ∨ j = 8 ∨ j = 9 ∨ j = 10 ∨ j = 11 ∨ j = 12 ∨ j = 13 ∨ j = 14 ∨ j = 15 ∨ j = 16 ∨ j = 17 ∨ j = 18 := by omega
  rcases hj with rfl | rfl | rfl | rfl | rfl | rfl | rfl | rfl | rfl | rfl | rfl | rfl | rfl | rfl | rfl | rfl | rfl | rfl | rfl <;> exact ⟨_, rfl⟩
theorem Apart.of_below {w w' : World} {B R : Nat} (hb : Below B w w') (hB : w.heap.size ≤ B) : Apart R w w' := below_apart (hb.mono hB) R
theorem conv_three (W : World) (x y z : Int) (a b c : UInt8) (hx : x = (a.toNat : Int)) (hy : y = (b.toNat : Int)) (hz : z = (c.toNat : Int)) : (convert 22 9 (.slice (some ⟨W.heap.size, 0, none⟩) 3 3)).run Tryd.prog (W.alloc (.cells #[.int .u8 x, .int .u8 y, .int .u8 z] 5)) = .ok (.string ⟨#[a, b, c]⟩) (W.alloc (.cells #[.int .u8 x, .int .u8 y, .int .u8 z] 5)) := by
  subst hx hy hz
  exact run_convert_bytes_back (P := Tryd.prog) (W.alloc (.cells #[.int .u8 (a.toNat : Int), .int .u8 (b.toNat : Int), .int .u8 (c.toNat : Int)] 5)) 22 9 5 ⟨W.heap.size, 0, none⟩ 3 [a, b, c] Tryd.underlying22 Tryd.underlying5 Tryd.underlying9 (fun j hj => by
    have : j = 0 ∨ j = 1 ∨ j = 2 := by simp at hj; omega
    rcases this with rfl | rfl | rfl
    · exact lit_cells W [.int .u8 (a.toNat : Int), .int .u8 (b.toNat : Int), .int .u8 (c.toNat : Int)] 5 0 _ rfl
    · exact lit_cells W [.int .u8 (a.toNat : Int), .int .u8 (b.toNat : Int), .int .u8 (c.toNat : Int)] 5 1 _ rfl
    · exact lit_cells W [.int .u8 (a.toNat : Int), .int .u8 (b.toNat : Int), .int .u8 (c.toNat : Int)] 5 2 _ rfl)
theorem three_digits (a b c : UInt8) (ha : 49 ≤ a.toNat ∧ a.toNat ≤ 57) (hb : 48 ≤ b.toNat ∧ b.toNat ≤ 57) (hc : 48 ≤ c.toNat ∧ c.toNat ≤ 57) (n : Nat) (hn : n < 3) : Digits ([a, b, c].take (1 + n)) := by
  have hq : n = 0 ∨ n = 1 ∨ n = 2 := by omega
  have da : dgB a = true := dgB_iff.2 ⟨by omega, ha.2⟩
  have db : dgB b = true := dgB_iff.2 hb
  have dc : dgB c = true := dgB_iff.2 hc
  have h48 : a ≠ 48 := fun h => by rw [h] at ha; exact absurd ha.1 (by decide)
  rcases hq with rfl | rfl | rfl
  · exact ⟨by intro x hx; simp at hx; rw [hx]; exact da, by simp, by simp⟩
  · exact ⟨by intro x hx; simp at hx; rcases hx with rfl | rfl <;> assumption, by simp, by simp [h48]⟩
  · exact ⟨by intro x hx; simp at hx; rcases hx with rfl | rfl | rfl <;> assumption, by simp, by simp [h48]⟩
set_option maxRecDepth 100000 in
theorem plainest_any (k : Int) (s : ByteArray) (a : Int) (hs : s.size ≤ 140737488351232) (w : World) : Calls Tryd.prog 10 #[.agg #[.int .i64 k, .string s, .int .i64 a]] w fun e w' => (∃ k' s', e = .returned (.agg #[.int .i64 k', .string s', .int .i64 0]) ∧ PlainTok k' s'.data.toList) ∧ Below w.heap.size w w' := by
  obtain ⟨i0, hi, hz0, hz1, hz2⟩ := info_parts infoByte
  go_enter Tryd.func10, Tryd.ntmps10
  go_upto_region 1 with fail
  refine wp_region_lit ?_
  refine wpList_buildTo rfl 59 _ rfl (some 11) rfl sgC (by simp only [List.map_toArray, List.map_cons, List.map_nil]; exact built_signs) ?_
  go_upto_region 2 with fail
  obtain ⟨wE, hwE⟩ : ∃ wE, wE = ((w.alloc (.cells #[.int .i64 k, .string s, .int .i64 a] 28)).alloc (.cells #[.int .i64 0, .string ⟨#[]⟩, .int .i64 0] 28)).alloc (.cells sgC 59) := ⟨_, rfl⟩
  have E0 : wE.cell? ⟨w.heap.size, 0, none⟩ = some (.int .i64 k) := by rw [hwE]; simp [go_sem]
  have E1 : wE.cell? ⟨w.heap.size, 1, none⟩ = some (.string s) := by rw [hwE]; simp [go_sem]
  have EZ : wE.heap.size = w.heap.size + 3 := by rw [hwE]; simp
  have EC : ∀ j v, sgC[j]? = some v → wE.cell? ⟨w.heap.size + 1 + 1, j, none⟩ = some v := by
    intro j v hv
    have hb := heap_alloc_last ((w.alloc (.cells #[.int .i64 k, .string s, .int .i64 a] 28)).alloc (.cells #[.int .i64 0, .string ⟨#[]⟩, .int .i64 0] 28)) (.cells sgC 59)
    rw [← hwE] at hb
    have hz : ((w.alloc (.cells #[.int .i64 k, .string s, .int .i64 a] 28)).alloc (.cells #[.int .i64 0, .string ⟨#[]⟩, .int .i64 0] 28)).heap.size = w.heap.size + 1 + 1 := by simp
    rw [hz] at hb
    exact (cell_of_row _ _ j _ _ _ hb).trans hv
  have EB : Below w.heap.size w wE := by
    rw [hwE]
    exact (((Below.refl _ _).alloc (Nat.le_refl _) _).alloc (by simp) _).alloc (by simp; omega) _
  have hz1 : (w.alloc (.cells #[.int .i64 k, .string s, .int .i64 a] 28)).heap.size = w.heap.size + 1 := by simp
  have ER := Tc.fresh (w.alloc (.cells #[.int .i64 k, .string s, .int .i64 a] 28)) 0
  rw [hz1] at ER
  have ER2 : Tc wE (w.heap.size + 1) 0 ⟨#[]⟩ 0 := by rw [hwE]; exact ER.apart (R := w.heap.size) (by omega) (below_apart ((Below.refl _ _).alloc (Nat.le_refl _) _) _)
  have HER := Lib.hid ER2
  clear ER ER2 hz1
  have HEC := Lib.hid EC
  have HEB := Lib.hid EB
  have HE0 := Lib.hid E0
  have HE1 := Lib.hid E1
  have HEZ := Lib.hid EZ
  rw [← hwE]
  clear hwE EC EB E0 E1
  go_wp2
  go_loopw [4, 5, 6] (fun bv sv iv wr => ∃ (i m : Nat) (bs : List UInt8), iv = .int .i64 i ∧ sv = .int .i64 m ∧ PRel wE.heap.size wE s bv i m bs wr) (fun _ _ iv _ => s.size - (intOf iv).toNat)
  case atStart => exact ⟨0, 0, [], rfl, rfl, Nat.zero_le _, Nat.zero_le _, ⟨(by intro x hx; cases hx), (by intro c t h; cases h)⟩, Nat.le_refl _, World.ownsRow_nil _ _ _ _, Below.refl _ _⟩
  case round =>
    obtain ⟨i, m, bs, rfl, rfl, hrel⟩ := hrel
    have HR := Lib.hid hrel
    have c1 : wr.cell? ⟨w.heap.size, 1, none⟩ = some (.string s) := (hrel.below.cell (p := ⟨w.heap.size, 1, none⟩) (by show w.heap.size < _; omega)).trans HE1.out
    have hm := hrel.sum
    have hle := hrel.le
    have hbl := hrel.len
    clear hrel EZ
    by_cases hlt : i < s.size
    · obtain ⟨n, hn⟩ : ∃ n : Nat, n = s[i].toNat := ⟨_, rfl⟩
      have F0 : (s[i].toNat : Int) = n := by rw [hn]
      have hn2 : n < 256 := by rw [hn]; exact s[i].toNat_lt
      have HN := Lib.hid hn
      have v1 : (m : Int) + (n : Int) ≤ 9000000000000000000 := by omega
      have v2 : (i : Int) < (s.size : Int) := by omega
      clear hn
      go_upto_region 9 with fail
      have hlen := own_len HR.out.own wr
      obtain ⟨L, hL⟩ : ∃ L, L = bs.length := ⟨_, rfl⟩
      rw [← hL] at hlen
      obtain ⟨C, hC⟩ : ∃ C, C = keepB n (decide (0 < L)) := ⟨_, rfl⟩
      have HC := Lib.hid hC
      have HLL := Lib.hid hL
      clear hC hL
      go_cut [57] from 27 to 57 (fun s57 wx => s57 = .bool C ∧ wx = wr)
      case first =>
        have hx : (97 ≤ n ∧ n ≤ 122) ∨ (65 ≤ n ∧ n ≤ 90) ∨ n = 95 ∨ (48 ≤ n ∧ n ≤ 57) ∨ n < 48 ∨ (57 < n ∧ n < 65) ∨ (90 < n ∧ n < 95) ∨ n = 96 ∨ 122 < n := by omega
        have hCn := Lib.hid (show C = _ from HC.out)
        rcases hx with h | h | h | h | h | h | h | h | h
        · have HCC : Hid (C = true) := by show _ = _; rw [hCn.out]; simp [keepB]; omega
          go_wp2_with fail
          go_meet
          case rel => exact ⟨by rw [HCC.out], rfl⟩
        · have HCC : Hid (C = true) := by show _ = _; rw [hCn.out]; simp [keepB]; omega
          go_wp2_with fail
          go_meet
          case rel => exact ⟨by rw [HCC.out], rfl⟩
        · have HCC : Hid (C = true) := by show _ = _; rw [hCn.out]; simp [keepB]; omega
          have h' : (n : Int) = 95 := by omega
          clear h
          go_wp2_with fail
          go_meet
          case rel => exact ⟨by rw [HCC.out], rfl⟩
        · have q95 : ((n : Int) == 95) = false := by simp; omega
          by_cases hb : 0 < L
          · have HCC : Hid (C = true) := by show _ = _; rw [hCn.out]; simp [keepB]; omega
            go_wp2_with fail
            go_meet
            case rel => exact ⟨by rw [HCC.out], rfl⟩
          · have HCC : Hid (C = false) := by show _ = _; rw [hCn.out]; simp [keepB]; omega
            go_wp2_with fail
            go_meet
            case rel => exact ⟨by rw [HCC.out], rfl⟩
        all_goals
          have HCC : Hid (C = false) := by show _ = _; rw [hCn.out]; simp [keepB]; omega
          have q95 : ((n : Int) == 95) = false := by simp; omega
          go_wp2_with fail
          go_meet
          case rel => exact ⟨by first | (rw [HCC.out]; done) | (rw [HCC.out]; simp; omega), rfl⟩
      case rest =>
        obtain ⟨rfl, rfl⟩ := hcut
        cases C
        · go_wp2
          go_roundw
          case rel => exact ⟨i + 1, m + n, bs, by go_num, by go_num, by omega, by omega, HR.out.ok, by omega, HR.out.own, HR.out.below⟩
          case measure => simp [intOf]; omega
        · have hm1 : bs.length + 1 ≤ maxLen := by unfold maxLen; omega
          have hm2 : (bs.length + 1) * 1 ≤ 140737488355328 := by omega
          go_wp2_with (at_builtin; refine wpList_append_own _ rfl _ _ 22 rfl wE.heap.size 5 i0 (.int .u8 0) 1 1 Tryd.underlying22 hi hz0 hz1 hz2 rfl (by decide) _ _ _ rfl (World.ownsRow.alloc HR.out.own _) ⟨wc.heap.size, 0, none⟩ 1 1 (u8s [(n : Int)]) rfl rfl (lit_cells _ _ _) (u8s_one _) hm1 hm2 (by have := HR.out.below.size; simp; omega) ?_; intro v2 w2 hown2 hgrow2 _; refine Hid.out ?_)
          refine Lib.hid ?_
          have hb2 := (HR.out.below.alloc HR.out.below.size _).grown hgrow2 (by have := HR.out.below.size; simp; omega) (fun k hk => (World.ownsRow.lt HR.out.own k hk).1)
          have hkw := keep_word HR.out.ok s[i] (by rw [← show n = _ from HN.out, ← show L = _ from HLL.out]; exact HC.out.symm)
          have hown3 : w2.ownsRow wE.heap.size 5 1 v2 (bs ++ [s[i]]).length (Lib.byteCells (bs ++ [s[i]])) := by
            rw [List.length_append, List.length_singleton]
            have e : Lib.byteCells (bs ++ [s[i]]) = Lib.byteCells bs ++ u8s [(n : Int)] := by simp [Lib.byteCells, u8s, F0]
            rw [e]
            exact hown2
          have HB2 := Lib.hid hb2
          have HO3 := Lib.hid hown3
          have HKW := Lib.hid hkw
          clear hown2 hgrow2 hb2 hown3 hkw
          go_wp2
          go_roundw
          case rel => exact ⟨i + 1, m + n, bs ++ [s[i]], by go_num, by go_num, by omega, by omega, HKW.out, by simp; omega, HO3.out, HB2.out⟩
          case measure => simp [intOf]; omega
    · have hkm := mod4 k
      obtain ⟨hk0, K, hK, hk1, hk2⟩ := hkm
      have HK1 := Lib.hid hk1
      have HK2 := Lib.hid hk2
      have c0 : wr.cell? ⟨w.heap.size, 0, none⟩ = some (.int .i64 k) := (HR.out.below.cell (p := ⟨w.heap.size, 0, none⟩) (by show w.heap.size < _; have := HEZ.out; omega)).trans HE0.out
      obtain ⟨bn, hbn⟩ : ∃ bn, decide (Int.tmod k 4 < 0) = bn := ⟨_, rfl⟩
      have HBN := Lib.hid hbn
      clear hk1 hk2
      go_upto_if 66 with fail
      go_cut [8] from 67 to 69 (fun s8 wx => s8 = .int .i64 K ∧ wx = wr)
      case first =>
        clear hbn
        cases bn
        · have e1 := Lib.hid (HK2.out (by simpa using HBN.out))
          go_wp2_with fail
          go_meet
          case rel => exact ⟨by rw [e1.out], rfl⟩
        · have h0 : Int.tmod k 4 < 0 := by simpa using HBN.out
          have e1 := Lib.hid (HK1.out h0)
          go_wp2_with fail
          go_meet
          case rel => exact ⟨by first | rw [e1.out] | (rw [← e1.out]), rfl⟩
      case rest =>
        obtain ⟨rfl, rfl⟩ := hcut
        clear hbn
        have hcases0 : True := trivial
        have hcases : K = 0 ∨ K = 1 ∨ K = 2 ∨ K = 3 := by omega
        have hRC := HER.out.apart (R := w.heap.size) (by omega) (Apart.of_below HR.out.below (by have := HEZ.out; omega))
        obtain ⟨r0, r1, r2, x0, x1, x2⟩ := hRC
        have HBW : Hid (Below w.heap.size w wc) := HEB.out.trans (HR.out.below.mono (by have := HEZ.out; omega))
        have hNlt : w.heap.size + 1 < wc.heap.size := by have := HR.out.below.size; have := HEZ.out; omega
        clear hcases0
        rcases hcases with rfl | rfl | rfl | rfl
        · have hlen := own_len HR.out.own wc
          have hlenb : ∀ z : Nat, z = bs.length → (Builtin.len_ #[22] 3 #[u4]).run Tryd.prog wc = .ok (.int .i64 z) wc := fun z hz => by rw [hz]; exact hlen
          obtain ⟨L, hL⟩ : ∃ L, L = bs.length := ⟨_, rfl⟩
          have hlen2 := hlenb L hL
          have HL := Lib.hid hL
          clear hlen hlenb
          have hL32 : (L : Int) ≤ 200000000000000 := by omega
          clear hL
          by_cases hb0 : L = 0
          · have e1 : decide ((32 : Int) < (L : Int)) = false := by simp; omega
            have e2 : ((L : Int) == 0) = true := by simp [hb0]
            have hcx := Lib.run_convert_bytes_const (P := Tryd.prog) wc 22 5 #[.int .u8 120] 1 1 Tryd.underlying22 Tryd.underlying5
            have hcv : (convert 22 9 (.slice (some ⟨wc.heap.size, 0, none⟩) 1 1)).run Tryd.prog (wc.alloc (.cells #[.int .u8 120] 5 (1, 2))) = .ok (.string ⟨#[120]⟩) (wc.alloc (.cells #[.int .u8 120] 5 (1, 2))) :=
              run_convert_bytes_back (P := Tryd.prog) (wc.alloc (.cells #[.int .u8 120] 5 (1, 2))) 22 9 5 ⟨wc.heap.size, 0, none⟩ 1 [120] Tryd.underlying22 Tryd.underlying5 Tryd.underlying9 (fun j hj => by
                have : j = 0 := by simpa using hj
                subst this
                have hb : (wc.alloc (.cells #[.int .u8 120] 5 (1, 2))).heap[wc.heap.size]? = some (.cells #[.int .u8 120] 5 (1, 2)) := heap_alloc_new wc _
                exact cell_of_row _ _ 0 _ _ _ hb)
            have HB0 := Lib.hid hb0
            clear hb0
            go_wp2
            refine bodyPost_ret (v := .agg #[.int .i64 1, .string ⟨#[120]⟩, .int .i64 0]) (by simp [results, Tryd.results10, go_sem, r0, r1, r2, x0, x1, x2, hNlt]) rfl ⟨⟨1, ⟨#[120]⟩, rfl, ?_⟩, ?_⟩
            · exact .inl ⟨rfl, ⟨by intro x hx; simp at hx; rw [hx]; decide, by intro c t h; simp at h; rw [← h.1]; decide⟩, by simp, by simp⟩
            · repeat (first | exact HBW.out | apply Below.drew | refine Below.setCell ?_ (by show w.heap.size ≤ w.heap.size + 1; omega) _ | refine Below.alloc ?_ (by first | (have := HBW.out.size; omega) | (have := HBW.out.size; simp [World.setCell]; omega)) _)
          · have e2 : ((L : Int) == 0) = false := by simp; omega
            by_cases hb1 : L ≤ 32
            · have e1 : decide ((32 : Int) < (L : Int)) = false := by simp; omega
              have hcv := own_conv HR.out.own
              obtain ⟨S, hS⟩ : ∃ S : ByteArray, S = ⟨bs.toArray⟩ := ⟨_, rfl⟩
              rw [← hS] at hcv
              have HS := Lib.hid hS
              have HB0 := Lib.hid hb0
              have HB1 := Lib.hid hb1
              clear hb0 hb1 hS
              go_wp2
              refine bodyPost_ret (v := .agg #[.int .i64 1, .string S, .int .i64 0]) (by simp [results, Tryd.results10, go_sem, r0, r1, r2, x0, x1, x2]) rfl ⟨⟨1, S, rfl, ?_⟩, ?_⟩
              · refine .inl ⟨rfl, by rw [HS.out]; exact HR.out.ok, by rw [HS.out]; intro h; exact HB0.out (by rw [show L = _ from HL.out]; simpa using h), by rw [HS.out]; have := HB1.out; have := HL.out; simp; omega⟩
              · repeat (first | exact HBW.out | apply Below.drew | refine Below.setCell ?_ (by show w.heap.size ≤ w.heap.size + 1; omega) _ | refine Below.alloc ?_ (by first | (have := HBW.out.size; omega) | (have := HBW.out.size; simp [World.setCell]; omega)) _)
            · have e1 : decide ((32 : Int) < (L : Int)) = true := by simp; omega
              have hform : ∃ g cap, u4 = .slice (some ⟨g, 0, none⟩) bs.length cap ∧ bs.length ≤ cap := by
                rcases HR.out.own.2 with ⟨_, h0⟩ | ⟨g, cap, cur, h1, _, _, h4, _⟩
                · have := HL.out; omega
                · exact ⟨g, cap, h1, h4⟩
              obtain ⟨g, cap, rfl, hcap⟩ := hform
              have v32 : 32 ≤ cap := by have := HL.out; omega
              have v33 : (32 : Int) < (bs.length : Int) := by have := HL.out; omega
              have hl : (bs.take 32).length = 32 := by rw [List.length_take]; have := HL.out; omega
              have hcv := run_convert_bytes_back (P := Tryd.prog) wc 22 9 5 ⟨g, 0, none⟩ cap (bs.take 32) Tryd.underlying22 Tryd.underlying5 Tryd.underlying9 (fun j hj => by
                rw [hl] at hj
                refine HR.out.own.cells (g := g) rfl j _ ?_
                have hjb : j < bs.length := by have := HL.out; omega
                simp [Lib.byteCells, hjb, List.getElem_take])
              rw [hl] at hcv
              obtain ⟨S, hS⟩ : ∃ S : ByteArray, S = ⟨(bs.take 32).toArray⟩ := ⟨_, rfl⟩
              rw [← hS] at hcv
              have HS := Lib.hid hS
              have HLL2 := Lib.hid hl
              clear hlen2 hl hS hb0 hb1
              go_wp2
              refine bodyPost_ret (v := .agg #[.int .i64 1, .string S, .int .i64 0]) (by simp [results, Tryd.results10, go_sem, r0, r1, r2, x0, x1, x2, hNlt]) rfl ⟨⟨1, S, rfl, ?_⟩, ?_⟩
              · refine .inl ⟨rfl, ?_, ?_, ?_⟩
                · rw [HS.out]
                  refine ⟨fun x hx => HR.out.ok.1 x (List.mem_of_mem_take hx), fun c t h => ?_⟩
                  cases hbs : bs with
                  | nil => rw [hbs] at h; cases h
                  | cons b r =>
                    rw [hbs] at h
                    simp at h
                    rw [← h.1]
                    exact HR.out.ok.2 b r hbs
                · rw [HS.out]; intro h; have := HLL2.out; rw [show List.take 32 bs = [] from h] at this; cases this
                · rw [HS.out]; exact Nat.le_of_eq HLL2.out
              · repeat (first | exact HBW.out | apply Below.drew | refine Below.setCell ?_ (by show w.heap.size ≤ w.heap.size + 1; omega) _ | refine Below.alloc ?_ (by first | (have := HBW.out.size; omega) | (have := HBW.out.size; simp [World.setCell]; omega)) _)
        · have hcv := conv_three wc (49 + (m : Int) % 9) (48 + (m : Int) % 10) (48 + (s.size : Int) % 10) (UInt8.ofNat (49 + m % 9)) (UInt8.ofNat (48 + m % 10)) (UInt8.ofNat (48 + s.size % 10)) (by rw [UInt8.toNat_ofNat']; omega) (by rw [UInt8.toNat_ofNat']; omega) (by rw [UInt8.toNat_ofNat']; omega)
          obtain ⟨P, hP⟩ : ∃ P : ByteArray, P = ⟨#[UInt8.ofNat (49 + m % 9), UInt8.ofNat (48 + m % 10), UInt8.ofNat (48 + s.size % 10)]⟩ := ⟨_, rfl⟩
          rw [← hP] at hcv
          have hPz : P.size = 3 := by rw [hP]; rfl
          have HP := Lib.hid hP
          clear hP
          go_wp2
          refine bodyPost_ret (v := .agg #[.int .i64 2, .string (P.extract 0 (1 + m % 3)), .int .i64 0]) (by simp [results, Tryd.results10, go_sem, r0, r1, r2, x0, x1, x2, hNlt]) rfl ⟨⟨2, (P.extract 0 (1 + m % 3)), rfl, ?_⟩, ?_⟩
          · have hl : (P.extract 0 (1 + m % 3)).data.toList = [UInt8.ofNat (49 + m % 9), UInt8.ofNat (48 + m % 10), UInt8.ofNat (48 + s.size % 10)].take (1 + m % 3) := by
              rw [ByteArray.data_extract]
              simp only [Array.toList_extract, List.extract_eq_take_drop]
              rw [HP.out]
              simp
            rw [hl]
            exact .inr (.inl ⟨rfl, three_digits _ _ _ (by rw [UInt8.toNat_ofNat']; omega) (by rw [UInt8.toNat_ofNat']; omega) (by rw [UInt8.toNat_ofNat']; omega) _ (by omega), by rw [List.length_take]; simp; omega⟩)
          · repeat (first | exact HBW.out | apply Below.drew | refine Below.setCell ?_ (by show w.heap.size ≤ w.heap.size + 1; omega) _ | refine Below.alloc ?_ (by first | (have := HBW.out.size; omega) | (have := HBW.out.size; simp [World.setCell]; omega)) _)
        · by_cases h2 : s.size ≤ 200
          · have e2 : decide ((200 : Int) < (s.size : Int)) = false := by simp; omega
            go_wp2
            refine bodyPost_ret (v := .agg #[.int .i64 3, .string s, .int .i64 0]) (by simp [results, Tryd.results10, go_sem, r0, r1, r2, x0, x1, x2]) rfl ⟨⟨3, s, rfl, ?_⟩, ?_⟩
            · exact .inr (.inr (.inl ⟨rfl, by simp; omega⟩))
            · repeat (first | exact HBW.out | apply Below.drew | refine Below.setCell ?_ (by show w.heap.size ≤ w.heap.size + 1; omega) _ | refine Below.alloc ?_ (by first | (have := HBW.out.size; omega) | (have := HBW.out.size; simp [World.setCell]; omega)) _)
          · have e2 : decide ((200 : Int) < (s.size : Int)) = true := by simp; omega
            have v200 : 200 ≤ s.size := by omega
            go_wp2
            refine bodyPost_ret (v := .agg #[.int .i64 3, .string (s.extract 0 200), .int .i64 0]) (by simp [results, Tryd.results10, go_sem, r0, r1, r2, x0, x1, x2]) rfl ⟨⟨3, (s.extract 0 200), rfl, ?_⟩, ?_⟩
            · exact .inr (.inr (.inl ⟨rfl, by simp; omega⟩))
            · repeat (first | exact HBW.out | apply Below.drew | refine Below.setCell ?_ (by show w.heap.size ≤ w.heap.size + 1; omega) _ | refine Below.alloc ?_ (by first | (have := HBW.out.size; omega) | (have := HBW.out.size; simp [World.setCell]; omega)) _)
        · obtain ⟨S, hS⟩ := sgC_at (m % 19) (by omega)
          have hc := (HR.out.below.cell (p := ⟨w.heap.size + 1 + 1, m % 19, none⟩) (by show w.heap.size + 1 + 1 < _; have := HEZ.out; omega)).trans (HEC.out _ _ hS)
          have HS := Lib.hid hS
          clear hS
          go_wp2
          refine bodyPost_ret (v := .agg #[.int .i64 4, .string S, .int .i64 0]) (by simp [results, Tryd.results10, go_sem, r0, r1, r2, x0, x1, x2]) rfl ⟨⟨4, S, rfl, ?_⟩, ?_⟩
          · refine .inr (.inr (.inr ⟨rfl, m % 19, by omega, ?_⟩))
            rw [show (⟨S.data.toList.toArray⟩ : ByteArray) = S from bytes_ext' (by simp)]
            exact HS.out
          · repeat (first | exact HBW.out | apply Below.drew | refine Below.setCell ?_ (by show w.heap.size ≤ w.heap.size + 1; omega) _ | refine Below.alloc ?_ (by first | (have := HBW.out.size; omega) | (have := HBW.out.size; simp [World.setCell]; omega)) _)
end Go.Proofs.YtdafnkfnaknoiaaDoor
