/- Contract of the document's own answer's str. Contract of the document's own answer's small. Contracts of the document's own answer's lists: signs, words. Contract of the document's own answer's among and Word. Contract of the laws' eqToks. -/
import Derived.Test.YtdafnkfnaknoiaaDoorT4
import Derived.Test.YtdafnkfnaknoiaaDoorG7
import Derived.Test.YtdafnkfnaknoiaaDoorS8
import Derived.Test.YtdafnkfnaknoiaaDoorS9
namespace Go.Proofs.YtdafnkfnaknoiaaDoor
open Go Go.RowKit
set_option maxHeartbeats 2000000
set_option linter.unusedVariables false
set_option linter.unusedSimpArgs false
/-- an answer that nothing is written to yet -/
def z6 : List Value := [.int .i64 0, .string ⟨#[]⟩, .int .i64 0, .int .i64 0, .int .i64 0, .int .i64 0]
structure R6 (w : World) (N : Nat) : Prop where
  c : ∀ j v, z6[j]? = some v → w.cell? ⟨N, j, none⟩ = some v
  z : ∀ j, j < 6 → w.frozen? ⟨N, j, none⟩ = false
theorem R6.below {w w' : World} {N B : Nat} (h : R6 w N) (hb : Below B w w') (hN : N < B) : R6 w' N :=
  ⟨fun j v hv => (hb.cell (p := ⟨N, j, none⟩) hN).trans (h.c j v hv), fun j hj => (hb.frozen (p := ⟨N, j, none⟩) hN).trans (h.z j hj)⟩
theorem R6.fresh (w : World) : R6 (w.alloc (.cells #[.int .i64 0, .string ⟨#[]⟩, .int .i64 0, .int .i64 0, .int .i64 0, .int .i64 0] 76)) w.heap.size := by
  refine ⟨fun j v hv => ?_, fun j hj => ?_⟩
  · match j, hv with
    | 0, hv => cases hv; simp [go_sem]
    | 1, hv => cases hv; simp [go_sem]
    | 2, hv => cases hv; simp [go_sem]
    | 3, hv => cases hv; simp [go_sem]
    | 4, hv => cases hv; simp [go_sem]
    | 5, hv => cases hv; simp [go_sem]
    | j + 6, hv => cases hv
  · match j, hj with
    | 0, _ => simp [go_sem]
    | 1, _ => simp [go_sem]
    | 2, _ => simp [go_sem]
    | 3, _ => simp [go_sem]
    | 4, _ => simp [go_sem]
    | 5, _ => simp [go_sem]
    | j + 6, h => omega
/-- what the reader of a string answers -/
def gotV (i : Nat) : StrR → Value
  | .bad E q => .agg #[.int .i64 0, .string ⟨#[]⟩, .int .i64 0, .int .i64 0, .int .i64 q, .int .i64 E]
  | .ok t q => .agg #[.int .i64 3, .string ⟨t.toArray⟩, .int .i64 i, .int .i64 q, .int .i64 0, .int .i64 0]
theorem below6 {B N : Nat} {w wr : World} (h : Below B w wr) (hN : B ≤ N) (a b c d e f : Value) : Below B w ((((((wr.setCell ⟨N, 0, none⟩ a).setCell ⟨N, 1, none⟩ b).setCell ⟨N, 2, none⟩ c).setCell ⟨N, 3, none⟩ d).setCell ⟨N, 4, none⟩ e).setCell ⟨N, 5, none⟩ f) :=
  (((((h.setCell hN _).setCell hN _).setCell hN _).setCell hN _).setCell hN _).setCell hN _
set_option maxRecDepth 100000 in
theorem str_r (s : ByteArray) (i : Nat) (hi : i < s.size) (hsz : s.size ≤ 140737488355328) (w : World) : Calls Tryd.prog 60 #[.string s, .int .i64 i] w fun e w' => e = .returned (gotV i (strL i (i + 1) [] (s.data.toList.drop (i + 1)))) ∧ Below w.heap.size w w' := by
  obtain ⟨i0, hinf, hz0, hz1, hz2⟩ := info_parts infoByte
  have hv2 : (s.size : Int) ≤ 140737488355328 := by omega
  have hv1 : (i : Int) < (s.size : Int) := by omega
  go_enter Tryd.func60, Tryd.ntmps60
  go_wp2
  obtain ⟨wE, hwE⟩ : ∃ wE, wE = w.alloc (.cells #[.int .i64 0, .string ⟨#[]⟩, .int .i64 0, .int .i64 0, .int .i64 0, .int .i64 0] 76) := ⟨_, rfl⟩
  have ER : R6 wE w.heap.size := by rw [hwE]; exact R6.fresh w
  have EZ : wE.heap.size = w.heap.size + 1 := by rw [hwE]; simp
  have EB : Below w.heap.size w wE := by rw [hwE]; exact (Below.refl _ _).alloc (Nat.le_refl _) _
  have HER := Lib.hid ER
  have HEZ := Lib.hid EZ
  have HEB := Lib.hid EB
  rw [← hwE]
  clear hwE ER EZ EB
  go_loopw [5, 6] (fun bv kv wr => ∃ (k : Nat) (acc : List UInt8), kv = .int .i64 k ∧ i < k ∧ k ≤ s.size ∧ acc.length ≤ 256 ∧ strL i (i + 1) [] (s.data.toList.drop (i + 1)) = strL i k acc (s.data.toList.drop k) ∧ wr.ownsRow wE.heap.size 5 1 bv acc.length (Lib.byteCells acc) ∧ Below wE.heap.size wE wr) (fun _ kv _ => s.size - (intOf kv).toNat)
  case atStart => exact ⟨i + 1, [], by go_num, by omega, by omega, by simp, rfl, World.ownsRow_nil _ _ _ _, Below.refl _ _⟩
  case round =>
    obtain ⟨k, acc, rfl, hik, hk, hacc, he, hown, hb⟩ := hrel
    obtain ⟨c0, c1, c2, c3, c4, c5⟩ : wr.cell? ⟨w.heap.size, 0, none⟩ = some (.int .i64 0) ∧ wr.cell? ⟨w.heap.size, 1, none⟩ = some (.string ⟨#[]⟩) ∧ wr.cell? ⟨w.heap.size, 2, none⟩ = some (.int .i64 0) ∧ wr.cell? ⟨w.heap.size, 3, none⟩ = some (.int .i64 0) ∧ wr.cell? ⟨w.heap.size, 4, none⟩ = some (.int .i64 0) ∧ wr.cell? ⟨w.heap.size, 5, none⟩ = some (.int .i64 0) := by
      have h := HER.out.below hb (by have := HEZ.out; omega)
      exact ⟨h.c 0 _ rfl, h.c 1 _ rfl, h.c 2 _ rfl, h.c 3 _ rfl, h.c 4 _ rfl, h.c 5 _ rfl⟩
    obtain ⟨z0, z1, z2, z3, z4, z5⟩ : wr.frozen? ⟨w.heap.size, 0, none⟩ = false ∧ wr.frozen? ⟨w.heap.size, 1, none⟩ = false ∧ wr.frozen? ⟨w.heap.size, 2, none⟩ = false ∧ wr.frozen? ⟨w.heap.size, 3, none⟩ = false ∧ wr.frozen? ⟨w.heap.size, 4, none⟩ = false ∧ wr.frozen? ⟨w.heap.size, 5, none⟩ = false := by
      have h := HER.out.below hb (by have := HEZ.out; omega)
      exact ⟨h.z 0 (by omega), h.z 1 (by omega), h.z 2 (by omega), h.z 3 (by omega), h.z 4 (by omega), h.z 5 (by omega)⟩
    have HO := Lib.hid hown
    have HB := Lib.hid hb
    have HE := Lib.hid he
    clear hown hb he
    have HBW : Hid (Below w.heap.size w wr) := HEB.out.trans (HB.out.mono (by have := HEZ.out; omega))
    have hNlt : w.heap.size < wr.heap.size := by have := HB.out.size; have := HEZ.out; omega
    by_cases hlt : k < s.size
    · have v1 : (k : Int) < (s.size : Int) := by omega
      have hd := drop_at hlt
      obtain ⟨n, hn⟩ : ∃ n : Nat, n = s[k].toNat := ⟨_, rfl⟩
      have F0 : (s[k].toNat : Int) = n := by rw [hn]
      by_cases h34 : n = 34
      · have hS : strL i (i + 1) [] (s.data.toList.drop (i + 1)) = .ok acc (k + 1) := by
          rw [HE.out, strL_eq, if_pos (by rw [hd, List.head?_cons, u8_of (k := 34) hn (by decide) h34]; rfl)]
        have HS := Lib.hid hS
        have e1 : ((n : Int) == 34) = true := by simp; omega
        have hcv := own_conv HO.out
        clear hS hd hn h34
        go_wp2
        refine bodyPost_ret (v := gotV i (.ok acc (k + 1))) (by simp [results, Tryd.results60, go_sem, gotV, c0, c1, c2, c3, c4, c5, z0, z1, z2, z3, z4, z5, hNlt]) rfl ⟨by rw [HS.out], below6 HBW.out (Nat.le_refl _) _ _ _ _ _ _⟩
      · have h34' : ¬ (s.data.toList.drop k).head? = some 34 := by
          rw [hd, List.head?_cons]
          intro h
          exact u8_ne (k := 34) hn (by decide) h34 (Option.some.inj h)
        have e1 : ((n : Int) == 34) = false := by simp; omega
        have hst := strL_eq i k acc (s.data.toList.drop k)
        rw [if_neg h34', ← HE.out] at hst
        obtain ⟨X, hX⟩ : ∃ X, X = charL (s.data.toList.drop k) := ⟨_, rfl⟩
        have hCR : ∀ wx, Calls Tryd.prog 73 #[.string s, .int .i64 k] wx fun e w' => e = .returned (chR X) ∧ w' = wx := fun wx => by rw [hX]; exact character_r s k hlt hsz wx
        have hbad : ∀ E, X = .bad E → E = 50 ∨ E = 51 := fun E h => charL_bad (hX.symm.trans h)
        have hok : ∀ b m, X = .ok b m → 0 < m ∧ k + m ≤ s.size := fun b m h => by
          have := charL_ok (hX.symm.trans h)
          rw [List.length_drop] at this
          have hl : s.data.toList.length = s.size := by simp
          omega
        rw [← hX] at hst
        clear hX hd hn h34 h34'
        rcases X with _ | E | ⟨b, m⟩
        · have HS : Hid (strL i (i + 1) [] (s.data.toList.drop (i + 1)) = .bad 52 i) := hst
          have HCR := Lib.hid hCR
          clear hst hCR hbad hok
          go_wp2_with (go_at_call 73; refine (HCR.out _).mono ?_; rintro e w' ⟨rfl, hw⟩; obtain rfl := hw.symm; simp only [chR])
          refine bodyPost_ret (v := gotV i (.bad 52 i)) (by simp [results, Tryd.results60, go_sem, gotV, c0, c1, c2, c3, c4, c5, z0, z1, z2, z3, z4, z5, hNlt]) rfl ⟨by rw [HS.out], below6 HBW.out (Nat.le_refl _) _ _ _ _ _ _⟩
        · have HS : Hid (strL i (i + 1) [] (s.data.toList.drop (i + 1)) = .bad E k) := hst
          have HCR := Lib.hid hCR
          have hE := hbad E rfl
          clear hst hCR hbad hok
          rcases hE with rfl | rfl
          · go_wp2_with (go_at_call 73; refine (HCR.out _).mono ?_; rintro e w' ⟨rfl, hw⟩; obtain rfl := hw.symm; simp only [chR])
            refine bodyPost_ret (v := gotV i (.bad 50 k)) (by simp [results, Tryd.results60, go_sem, gotV, c0, c1, c2, c3, c4, c5, z0, z1, z2, z3, z4, z5, hNlt]) rfl ⟨by rw [HS.out], below6 HBW.out (Nat.le_refl _) _ _ _ _ _ _⟩
          · go_wp2_with (go_at_call 73; refine (HCR.out _).mono ?_; rintro e w' ⟨rfl, hw⟩; obtain rfl := hw.symm; simp only [chR])
            refine bodyPost_ret (v := gotV i (.bad 51 k)) (by simp [results, Tryd.results60, go_sem, gotV, c0, c1, c2, c3, c4, c5, z0, z1, z2, z3, z4, z5, hNlt]) rfl ⟨by rw [HS.out], below6 HBW.out (Nat.le_refl _) _ _ _ _ _ _⟩
        · have HST := Lib.hid hst
          have HCR := Lib.hid hCR
          obtain ⟨hm0, hm1⟩ := hok b m rfl
          clear hst hCR hbad hok
          have hm2 : acc.length + 1 ≤ maxLen := by unfold maxLen; omega
          have hm3 : (acc.length + 1) * 1 ≤ 140737488355328 := by omega
          have vkm : (k : Int) + (m : Int) ≤ 140737488355328 := by omega
          obtain ⟨nb, hnb⟩ : ∃ nb : Nat, nb = b.toNat := ⟨_, rfl⟩
          have HNB := Lib.hid hnb
          have HCR2 : Hid (∀ wx, Calls Tryd.prog 73 #[.string s, .int .i64 k] wx fun e w' => e = .returned (.tuple #[.int .u8 nb, .int .i64 m, .int .i64 0, .int .i64 0]) ∧ w' = wx) := fun wx => by rw [hnb]; exact HCR.out wx
          clear hnb HCR
          go_wp2_with (first | (go_at_call 73; refine (HCR2.out _).mono ?_; rintro e w' ⟨rfl, hw⟩; obtain rfl := hw.symm) | (at_builtin; refine wpList_append_own _ rfl _ _ 22 rfl wE.heap.size 5 i0 (.int .u8 0) 1 1 Tryd.underlying22 hinf hz0 hz1 hz2 rfl (by decide) _ _ _ rfl (World.ownsRow.alloc HO.out _) ⟨wr.heap.size, 0, none⟩ 1 1 (u8s [(nb : Int)]) rfl rfl (lit_cells _ _ _) (u8s_one _) hm2 hm3 (by have := HB.out.size; simp; omega) ?_; intro v2 w2 hown2 hgrow2 _; refine Hid.out ?_))
          refine Lib.hid ?_
          have hb2 := (HB.out.alloc HB.out.size _).grown hgrow2 (by have := HB.out.size; simp; omega) (fun j hj => (World.ownsRow.lt HO.out j hj).1)
          have hown3 : w2.ownsRow wE.heap.size 5 1 v2 (acc ++ [b]).length (Lib.byteCells (acc ++ [b])) := by
            rw [List.length_append, List.length_singleton]
            have e : Lib.byteCells (acc ++ [b]) = Lib.byteCells acc ++ u8s [(nb : Int)] := by rw [HNB.out]; simp [Lib.byteCells, u8s]
            rw [e]
            exact hown2
          have hlen := own_len hown3
          obtain ⟨z, hz⟩ : ∃ z, z = (acc ++ [b]).length := ⟨_, rfl⟩
          have hlen2 : ∀ wx, (Builtin.len_ #[22] 3 #[v2]).run Tryd.prog wx = .ok (.int .i64 z) wx := by rw [hz]; exact hlen
          have hzl : z = acc.length + 1 := by rw [hz]; simp
          have HB2 := Lib.hid hb2
          have HO3 := Lib.hid hown3
          clear hown2 hgrow2 hlen hz hb2 hown3
          have hlen3 := hlen2 w2
          by_cases h256 : acc.length = 256
          · have hS : strL i (i + 1) [] (s.data.toList.drop (i + 1)) = .bad 51 i := by
              have := HST.out
              simp only [if_pos h256] at this
              exact this
            have HS := Lib.hid hS
            have e2 : decide ((256 : Int) < (z : Int)) = true := by simp; omega
            have v3 : (256 : Int) < (z : Int) := by omega
            have hR := HER.out.below HB2.out (by have := HEZ.out; omega)
            have y0 := hR.c 0 _ rfl
            have y1 := hR.c 1 _ rfl
            have y2 := hR.c 2 _ rfl
            have y3 := hR.c 3 _ rfl
            have y4 := hR.c 4 _ rfl
            have y5 := hR.c 5 _ rfl
            have t0 := hR.z 0 (by omega)
            have t1 := hR.z 1 (by omega)
            have t2 := hR.z 2 (by omega)
            have t3 := hR.z 3 (by omega)
            have t4 := hR.z 4 (by omega)
            have t5 := hR.z 5 (by omega)
            have HBW2 : Hid (Below w.heap.size w w2) := HEB.out.trans (HB2.out.mono (by have := HEZ.out; omega))
            clear hS hR hzl h256
            go_wp2
            refine bodyPost_ret (v := gotV i (.bad 51 i)) (by simp [results, Tryd.results60, go_sem, gotV, y0, y1, y2, y3, y4, y5, t0, t1, t2, t3, t4, t5]) rfl ⟨by rw [HS.out], below6 HBW2.out (Nat.le_refl _) _ _ _ _ _ _⟩
          · have hS : strL i (i + 1) [] (s.data.toList.drop (i + 1)) = strL i (k + m) (acc ++ [b]) (s.data.toList.drop (k + m)) := by
              have := HST.out
              simp only [if_neg h256] at this
              rw [List.drop_drop] at this
              exact this
            have HS := Lib.hid hS
            have e2 : decide ((256 : Int) < (z : Int)) = false := by simp; omega
            have v3 : (z : Int) ≤ 256 := by omega
            have h255 : acc.length + 1 ≤ 256 := by omega
            clear hS hzl h256
            go_wp2
            go_roundw
            case rel => exact ⟨k + m, acc ++ [b], by go_num, by omega, hm1, by simp; omega, HS.out, HO3.out, HB2.out⟩
            case measure => simp [intOf]; omega
    · have d1 : decide (k < s.size) = false := by simp; omega
      have v1 : ¬ (k : Int) < (s.size : Int) := by omega
      have hS : strL i (i + 1) [] (s.data.toList.drop (i + 1)) = .bad 52 i := by
        rw [HE.out, strL_eq, List.drop_eq_nil_of_le (by simp; omega), if_neg (by simp)]
        rfl
      have HS := Lib.hid hS
      clear hS
      go_wp2
      refine bodyPost_ret (v := gotV i (.bad 52 i)) (by simp [results, Tryd.results60, go_sem, gotV, c0, c1, c2, c3, c4, c5, z0, z1, z2, z3, z4, z5, hNlt]) rfl ⟨by rw [HS.out], below6 HBW.out (Nat.le_refl _) _ _ _ _ _ _⟩
end Go.Proofs.YtdafnkfnaknoiaaDoor
namespace Go.Proofs.YtdafnkfnaknoiaaDoor
open Go Go.RowKit
set_option maxHeartbeats 1000000
set_option linter.unusedVariables false
set_option linter.unusedSimpArgs false
def mostL : List UInt8 := [57, 50, 50, 51, 51, 55, 50, 48, 51, 54, 56, 53, 52, 55, 55, 53, 56, 48, 55]
/-- is the number of these digits at most the greatest one, with no needless 0? -/
def smallB (l : List UInt8) : Bool := if 1 < l.length ∧ l.head? = some 48 then false else if l.length = 19 then (Op.bytesLess l mostL || l == mostL) else decide (l.length < 19)
set_option maxRecDepth 100000 in
theorem small_r (s : ByteArray) (w : World) : Calls Tryd.prog 59 #[.string s] w fun e w' => e = .returned (.bool (smallB s.data.toList)) ∧ w' = w := by
  have hl : s.data.toList.length = s.size := by simp
  have htl : s.toList = s.data.toList := ByteArray.toList_eq _
  by_cases h1 : 1 < s.size
  · have d1 : decide ((1 : Int) < (s.size : Int)) = true := by simp; omega
    have h0 : 0 < s.size := by omega
    have hd := drop_at h0
    rw [List.drop_zero] at hd
    obtain ⟨n, hn⟩ : ∃ n : Nat, n = (s[0]'h0).toNat := ⟨_, rfl⟩
    have F0 : ((s[0]'h0).toNat : Int) = n := by rw [hn]
    by_cases h48 : n = 48
    · have HS : Hid (smallB s.data.toList = false) := by
        show _ = _
        unfold smallB
        rw [if_pos ⟨by omega, by rw [hd, List.head?_cons]; exact congrArg some (u8_of (k := 48) hn (by decide) h48)⟩]
      have e1 : ((n : Int) == 48) = true := by simp; omega
      clear hd hn h48 hl htl
      go_enter Tryd.func59, Tryd.ntmps59
      go_wp2
      go_ret
      exact ⟨by rw [HS.out]; rfl, by first | rfl | trivial⟩
    · have hne : ¬ (1 < s.data.toList.length ∧ s.data.toList.head? = some 48) := fun ⟨_, h⟩ => by
        rw [hd, List.head?_cons] at h
        exact u8_ne (k := 48) hn (by decide) h48 (Option.some.inj h)
      have e1 : ((n : Int) == 48) = false := by simp; omega
      by_cases h19 : s.size = 19
      · have HS : Hid (smallB s.data.toList = (Op.bytesLess s.toList mostL || s.toList == mostL)) := by
          show _ = _
          unfold smallB
          rw [if_neg hne, if_pos (by omega), htl]
        have b2 : ((s.size : Int) == 19) = true := by simp; omega
        have b2' : ((s.size : Int) != 19) = false := by simp only [bne, b2]; rfl
        clear hd hn h48 hl htl hne h19
        go_enter Tryd.func59, Tryd.ntmps59
        go_wp2
        go_ret
        exact ⟨by rw [HS.out]; rfl, by first | rfl | trivial⟩
      · have HS : Hid (smallB s.data.toList = decide ((s.size : Int) < 19)) := by
          show _ = _
          unfold smallB
          rw [if_neg hne, if_neg (by omega), hl]
          by_cases h : s.size < 19
          · rw [decide_eq_true h, decide_eq_true (by omega)]
          · rw [decide_eq_false h, decide_eq_false (by omega)]
        have b2 : ((s.size : Int) == 19) = false := by simp; omega
        have b2' : ((s.size : Int) != 19) = true := by simp only [bne, b2]; rfl
        clear hd hn h48 hl htl hne h19
        go_enter Tryd.func59, Tryd.ntmps59
        go_wp2
        go_ret
        exact ⟨by rw [HS.out]; rfl, by first | rfl | trivial⟩
  · have d1 : decide ((1 : Int) < (s.size : Int)) = false := by simp; omega
    have HS : Hid (smallB s.data.toList = decide ((s.size : Int) < 19)) := by
      show _ = _
      unfold smallB
      rw [if_neg (fun h => by omega), if_neg (by omega), hl]
      rw [decide_eq_true (show s.size < 19 by omega), decide_eq_true (by omega)]
    have b2 : ((s.size : Int) == 19) = false := by simp; omega
    have b2' : ((s.size : Int) != 19) = true := by simp only [bne, b2]; rfl
    clear hl htl
    go_enter Tryd.func59, Tryd.ntmps59
    go_wp2
    go_ret
    exact ⟨by rw [HS.out]; rfl, by first | rfl | trivial⟩
end Go.Proofs.YtdafnkfnaknoiaaDoor
namespace Go.Proofs.YtdafnkfnaknoiaaDoor
open Go Go.RowKit
set_option maxHeartbeats 1000000
set_option linter.unusedVariables false
set_option linter.unusedSimpArgs false
def sgV : Array Value := #[.string ⟨#[46, 46]⟩, .string ⟨#[33, 61]⟩, .string ⟨#[60, 61]⟩, .string ⟨#[62, 61]⟩, .string ⟨#[40]⟩, .string ⟨#[41]⟩, .string ⟨#[91]⟩, .string ⟨#[93]⟩, .string ⟨#[123]⟩, .string ⟨#[125]⟩, .string ⟨#[44]⟩, .string ⟨#[46]⟩, .string ⟨#[43]⟩, .string ⟨#[45]⟩, .string ⟨#[42]⟩, .string ⟨#[61]⟩, .string ⟨#[60]⟩, .string ⟨#[62]⟩, .string ⟨#[33]⟩]
def wdV : Array Value := #[.string ⟨#[80, 65, 84, 84, 69, 82, 78]⟩, .string ⟨#[83, 69, 81]⟩, .string ⟨#[80, 65, 82, 84, 73, 84, 73, 79, 78]⟩, .string ⟨#[66, 89]⟩, .string ⟨#[87, 72, 69, 82, 69]⟩, .string ⟨#[87, 73, 84, 72, 73, 78]⟩, .string ⟨#[82, 69, 84, 85, 82, 78]⟩, .string ⟨#[65, 78, 68]⟩, .string ⟨#[79, 82]⟩, .string ⟨#[78, 79, 84]⟩, .string ⟨#[84, 82, 85, 69]⟩, .string ⟨#[70, 65, 76, 83, 69]⟩, .string ⟨#[84, 89, 80, 69]⟩, .string ⟨#[73, 78, 84]⟩, .string ⟨#[83, 84, 82]⟩, .string ⟨#[66, 79, 79, 76]⟩]
theorem infoStr : (Tryd.prog.info? 9).map (fun i => (i.zero, i.size, i.bytes)) = some (some (.string ⟨#[]⟩), 1, 16) := by kernel_rfl
set_option maxRecDepth 100000 in
theorem signs_r (w : World) : Calls Tryd.prog 61 #[] w fun e w' => e = .returned (.slice (some ⟨w.heap.size, 0, none⟩) 19 19) ∧ w' = w.alloc (.cells sgV 9) := by
  obtain ⟨i0, hi, hz0, hz1, hz2⟩ := info_parts infoStr
  go_enter Tryd.func61, Tryd.ntmps61
  go_upto_region 1 with fail
  refine wp_region_lit ?_
  refine wpList_buildSlice rfl 38 9 19 _ rfl sgV i0 (.string ⟨#[]⟩) (by kernel_rfl) hi hz0 (by rw [hz1]; decide) (by rw [hz1]; decide) (by rw [hz1]; kernel_rfl) ?_
  go_wp2
  go_ret
  exact ⟨rfl, rfl⟩
set_option maxRecDepth 100000 in
theorem words_r (w : World) : Calls Tryd.prog 44 #[] w fun e w' => e = .returned (.slice (some ⟨w.heap.size, 0, none⟩) 16 16) ∧ w' = w.alloc (.cells wdV 9) := by
  obtain ⟨i0, hi, hz0, hz1, hz2⟩ := info_parts infoStr
  go_enter Tryd.func44, Tryd.ntmps44
  go_upto_region 1 with fail
  refine wp_region_lit ?_
  refine wpList_buildSlice rfl 38 9 16 _ rfl wdV i0 (.string ⟨#[]⟩) (by kernel_rfl) hi hz0 (by rw [hz1]; decide) (by rw [hz1]; decide) (by rw [hz1]; kernel_rfl) ?_
  go_wp2
  go_ret
  exact ⟨rfl, rfl⟩
end Go.Proofs.YtdafnkfnaknoiaaDoor
namespace Go.Proofs.YtdafnkfnaknoiaaDoor
open Go Go.RowKit
set_option maxHeartbeats 1000000
set_option linter.unusedVariables false
set_option linter.unusedSimpArgs false
/-- is it one of these? -/
def inL (l : List (List UInt8)) (s : List UInt8) : Bool := l.any (fun x => x == s)
set_option maxRecDepth 100000 in
theorem among_r (g : Nat) (L : List (List UInt8)) (s : ByteArray) (w : World) (hn : L.length ≤ 100) (hL : ∀ (j : Nat) (h : j < L.length), w.cell? ⟨g, j, none⟩ = some (.string ⟨L[j].toArray⟩)) : Calls Tryd.prog 43 #[.slice (some ⟨g, 0, none⟩) L.length L.length, .string s] w fun e w' => e = .returned (.bool (inL L s.data.toList)) ∧ w' = w := by
  obtain ⟨n, hnL⟩ : ∃ n, n = L.length := ⟨_, rfl⟩
  rw [← hnL] at hn ⊢
  have HNL := Lib.hid hnL
  have HL := Lib.hid hL
  clear hnL hL
  have hv : (n : Int) ≤ 100 := by omega
  go_enter Tryd.func43, Tryd.ntmps43
  go_wp2
  go_loopw [5] (fun iv wr => ∃ i : Nat, iv = .int .i64 i ∧ i ≤ n ∧ inL (L.take i) s.data.toList = false ∧ wr = w) (fun iv _ => n - (intOf iv).toNat)
  case atStart => exact ⟨0, rfl, Nat.zero_le _, rfl, rfl⟩
  case round =>
    obtain ⟨i, rfl, hi, hno, rfl⟩ := hrel
    have HNO := Lib.hid hno
    clear hno
    by_cases hlt : i < n
    · have v1 : (i : Int) < (n : Int) := by omega
      have hiL : i < L.length := by rw [← show n = _ from HNL.out]; exact hlt
      have c0 := HL.out i hiL
      obtain ⟨x, hx⟩ : ∃ x : ByteArray, x = ⟨L[i].toArray⟩ := ⟨_, rfl⟩
      rw [← hx] at c0
      have hxl : x.data.toList = L[i] := by rw [hx]
      have htl : x.toList = L[i] := by rw [ByteArray.toList_eq, hxl]
      have hsl : s.toList = s.data.toList := ByteArray.toList_eq _
      have hnext : inL (L.take (i + 1)) s.data.toList = (x.toList == s.toList) := by
        rw [List.take_succ_eq_append_getElem hiL]
        have := HNO.out
        unfold inL at this ⊢
        rw [List.any_append, this, Bool.false_or, htl, hsl]
        simp
      have HNX := Lib.hid hnext
      clear hx hxl htl hsl hnext
      obtain ⟨b, hb⟩ : ∃ b, (x.toList == s.toList) = b := ⟨_, rfl⟩
      rw [hb] at HNX
      cases b
      · go_wp2
        go_roundw
        case rel => exact ⟨i + 1, by go_num, by omega, HNX.out, by first | rfl | trivial⟩
        case measure => simp [intOf]; omega
      · have hyes : inL L s.data.toList = true := by
          have := HNX.out
          unfold inL at this ⊢
          rw [List.any_eq_true] at this ⊢
          obtain ⟨y, hy, he⟩ := this
          exact ⟨y, List.mem_of_mem_take hy, he⟩
        have HY := Lib.hid hyes
        clear hyes
        go_wp2
        go_ret
        exact ⟨by rw [HY.out]; rfl, by first | rfl | trivial⟩
    · have hni : i = n := by omega
      subst hni
      have hno : inL L s.data.toList = false := by
        have := HNO.out
        rw [show L.take i = L from List.take_of_length_le (by rw [← show i = _ from HNL.out]; omega)] at this
        exact this
      have HNO2 := Lib.hid hno
      clear hno
      go_wp2
      go_ret
      exact ⟨by rw [HNO2.out]; rfl, by first | rfl | trivial⟩
def wdL : List (List UInt8) := [[80, 65, 84, 84, 69, 82, 78], [83, 69, 81], [80, 65, 82, 84, 73, 84, 73, 79, 78], [66, 89], [87, 72, 69, 82, 69], [87, 73, 84, 72, 73, 78], [82, 69, 84, 85, 82, 78], [65, 78, 68], [79, 82], [78, 79, 84], [84, 82, 85, 69], [70, 65, 76, 83, 69], [84, 89, 80, 69], [73, 78, 84], [83, 84, 82], [66, 79, 79, 76]]
def sgL : List (List UInt8) := [[46, 46], [33, 61], [60, 61], [62, 61], [40], [41], [91], [93], [123], [125], [44], [46], [43], [45], [42], [61], [60], [62], [33]]
theorem wdV_eq : wdV.toList = wdL.map (fun x => Value.string ⟨x.toArray⟩) := by kernel_rfl
theorem sgV_eq : sgV.toList = sgL.map (fun x => Value.string ⟨x.toArray⟩) := by kernel_rfl
theorem list_at {V : Array Value} {L : List (List UInt8)} (h : V.toList = L.map (fun x => Value.string ⟨x.toArray⟩)) (w : World) (t : TypeId) (j : Nat) (hj : j < L.length) : (w.alloc (.cells V t)).cell? ⟨w.heap.size, j, none⟩ = some (.string ⟨L[j].toArray⟩) := by
  have h1 := lit_cells w V.toList t j (.string ⟨L[j].toArray⟩) (by rw [h, List.getElem?_map, List.getElem?_eq_getElem hj]; rfl)
  have e : ((⟨w.heap.size, 0, none⟩ : Addr).add j) = ⟨w.heap.size, j, none⟩ := by unfold Addr.add; split <;> simp_all
  rw [e, Array.toArray_toList] at h1
  exact h1
set_option maxRecDepth 100000 in
theorem refWord_r (s : ByteArray) (w : World) : Calls Tryd.prog 29 #[.string s] w fun e w' => e = .returned (.bool (inL wdL s.data.toList)) ∧ Below w.heap.size w w' := by
  have HB : Hid (∀ o, Below w.heap.size w (w.alloc o)) := fun o => (Below.refl _ _).alloc (Nat.le_refl _) o
  have HA : Hid (Calls Tryd.prog 43 #[.slice (some ⟨w.heap.size, 0, none⟩) 16 16, .string s] (w.alloc (.cells wdV 9)) fun e w' => e = .returned (.bool (inL wdL s.data.toList)) ∧ w' = w.alloc (.cells wdV 9)) :=
    among_r w.heap.size wdL s _ (by decide) (fun j hj => list_at wdV_eq w 9 j hj)
  go_enter Tryd.func29, Tryd.ntmps29
  go_wp2_with (first | (go_at_call 44; refine (words_r _).mono ?_; rintro e w' ⟨rfl, hw⟩; obtain rfl := hw.symm) | (go_at_call 43; refine HA.out.mono ?_; rintro e w' ⟨rfl, hw⟩; obtain rfl := hw.symm))
  go_ret
  exact ⟨rfl, HB.out _⟩
end Go.Proofs.YtdafnkfnaknoiaaDoor
namespace Go.Proofs.YtdafnkfnaknoiaaDoor
open Go Go.RowKit
set_option maxHeartbeats 1000000
set_option linter.unusedVariables false
set_option linter.unusedSimpArgs false
set_option maxRecDepth 100000 in
theorem eqToks_same (p q : Option Addr) (c d : Nat) (L : List Tok3) (w : World) (hA : TokAt w p L) (hB : TokAt w q L) (hlen : L.length ≤ 140737488355328) : Calls Tryd.prog 19 #[.slice p L.length c, .slice q L.length d] w fun e w' => e = .returned (.bool true) ∧ Below w.heap.size w w' := by
  have HA := Lib.hid hA
  have HB := Lib.hid hB
  obtain ⟨n, hn⟩ : ∃ n, n = L.length := ⟨_, rfl⟩
  rw [← hn] at hlen ⊢
  have HN := Lib.hid hn
  clear hA hB hn
  have hv : (n : Int) ≤ 140737488355328 := by omega
  go_enter Tryd.func19, Tryd.ntmps19
  go_wp2
  go_loopw [5] (fun iv wr => ∃ i k : Nat, i ≤ n ∧ iv = .int .i64 i ∧ wr = w.drewN k) (fun iv _ => n - (intOf iv).toNat)
  case atStart => exact ⟨0, 0, Nat.zero_le _, rfl, rfl⟩
  case round =>
    obtain ⟨i, k, hi, rfl, rfl⟩ := hrel
    by_cases hlt : i < n
    · have hiL : i < L.length := by rw [← show n = _ from HN.out]; exact hlt
      obtain ⟨ab, ao, rfl, a0, a1, a2⟩ := HA.out i hiL
      obtain ⟨bb', bo', rfl, b0, b1, b2⟩ := HB.out i hiL
      obtain ⟨⟨xk, xs, xa⟩, hx⟩ : ∃ x, x = L[i] := ⟨_, rfl⟩
      rw [← hx] at a0 a1 a2 b0 b1 b2
      have v3 : (i : Int) < (n : Int) := by omega
      clear hx
      go_wp2
      go_quiet (fail)
      go_wp2
      go_roundw
      case rel => exact ⟨i + 1, _, by omega, by go_num, rfl⟩
      case measure => simp [intOf]; omega
    · go_wp2
      go_ret
      exact ⟨rfl, below_drewN (Below.refl _ _) _⟩
end Go.Proofs.YtdafnkfnaknoiaaDoor
