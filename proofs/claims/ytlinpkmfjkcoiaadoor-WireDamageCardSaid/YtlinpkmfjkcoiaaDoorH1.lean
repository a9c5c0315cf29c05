/- The reference's PutInt and same. -/
import Derived.Test.YtlinpkmfjkcoiaaDoorF3
import Derived.LoopTactic
namespace Go.Proofs.YtlinpkmfjkcoiaaDoor
open Go Go.RowKit
set_option maxHeartbeats 1000000
set_option linter.unusedVariables false
set_option linter.unusedSimpArgs false
set_option maxRecDepth 100000 in
theorem refPut_any (n : Int) (h : I64 n) (w : World) :
    Calls Tryd.prog 23 #[.int .i64 n] w (Wrote w.heap.size w (.slice none 0 0) (put n)) := by
  obtain ⟨i0, hi, hz0, hz1, hz2⟩ := info_parts infoByte
  have HZ : Hid (zig n < 18446744073709551616) := zig_lt h.1 h.2
  have H10 : Hid ((put n).length ≤ 10) := grp_len10 (zig_lt h.1 h.2)
  obtain ⟨B, hB⟩ : ∃ B, B = w.heap.size := ⟨_, rfl⟩
  have HBE := Lib.hid hB
  have hcase : (n < 0 ∧ decide (n < 0) = true ∧ ((zig n : Nat) : Int) = 2 * -(n + 1) + 1) ∨ (0 ≤ n ∧ decide (n < 0) = false ∧ ((zig n : Nat) : Int) = 2 * n) := by
    unfold zig
    by_cases hn : n < 0
    · rw [if_pos hn]; exact .inl ⟨hn, by simpa using hn, by omega⟩
    · rw [if_neg hn]; exact .inr ⟨by omega, by simpa using hn, by omega⟩
  obtain ⟨h0, h1⟩ := h
  rw [← hB]
  clear hB
  rcases hcase with ⟨hn, d0, hz⟩ | ⟨hn, d0, hz⟩
  all_goals
    have HZZ := Lib.hid hz
    clear hz
    go_enter Tryd.func23, Tryd.ntmps23
    go_wp2
    go_loopw [3, 4] (fun z u wr => ∃ (k : Nat) (d : List UInt8), z = .int .u64 k ∧ k < 18446744073709551616 ∧ d ++ grp k = put n ∧ Out wr B u d ∧ Wr w wr (.slice none 0 0) u) (fun z _ _ => (intOf z).toNat)
    case atStart => exact ⟨zig n, [], by rw [HZZ.out], HZ.out, rfl, World.ownsRow_nil _ _ _ _, Wr.refl _ _⟩
    case round =>
      obtain ⟨k, d, rfl, hk, hd, hown, hb⟩ := hrel
      have hdl : d.length ≤ 9 := by
        have h1 := congrArg List.length hd
        have h2 := H10.out
        have h3 := grp_pos k
        rw [List.length_append] at h1
        omega
      have HD := Lib.hid hd
      have HB := Lib.hid hb
      have hsz := hb.g.size
      have hBr : B ≤ wr.heap.size := by have := HBE.out; omega
      have hm1 : d.length + 1 ≤ maxLen := by unfold maxLen; omega
      have hm2 : (d.length + 1) * 1 ≤ 140737488355328 := by omega
      have HOW := Lib.hid (show wr.ownsRow B 5 1 _ d.length (Lib.byteCells d) from hown)
      clear hd hb hown
      by_cases hs : k < 128
      · have hd0 : decide ((128 : Int) ≤ (k : Int)) = false := by simp; omega
        have HU : Hid ((k : Int) = ((UInt8.ofNat k).toNat : Nat)) := by show _ = _; rw [ofNat_small (by omega)]
        have HE : Hid (d ++ [UInt8.ofNat k] = put n) := by show _ = _; rw [← HD.out, grp_small hs]
        go_wp2_with (at_builtin; refine wpList_append_lies _ rfl _ _ 25 rfl B 5 i0 (.int .u8 0) 1 1 Tryd.underlying25 hi hz0 hz1 hz2 rfl (by decide) _ _ _ rfl (HOW.out.alloc _) ⟨wr.heap.size, 0, none⟩ 1 1 [.int .u8 (k : Int)] rfl rfl (lit_cells _ _ _) (by intro u hu; simp at hu; subst hu; rfl) (by decide) hm1 hm2 (by simp; omega) (wr.heap.size + 1) (by simp) ?_)
        intro g cap w2 hown2 hgrow hwhere hlt
        rw [HU.out, bytes_snoc] at hown2
        have hW2 := HB.out.trans (Wr.app (n := d.length + 1) (c := cap) hgrow (by simpa using hwhere)).alloc
        have hO2 : Out w2 B (.slice (some ⟨g, 0, none⟩) (d.length + 1) cap) (put n) := by
          rw [← HE.out]
          exact Out.of hown2 (by simp) rfl
        have HLE : Hid ((put n).length = d.length + 1) := by show _ = _; rw [← HE.out]; simp
        have HO2 := Lib.hid hO2
        have HW2 := Lib.hid hW2
        clear hown2 hgrow hwhere hO2 hW2
        go_wp2
        go_ret
        exact ⟨some ⟨g, 0, none⟩, cap, by rw [HLE.out]; rfl, by rw [HLE.out]; exact HO2.out, by rw [HLE.out]; exact HW2.out⟩
      · have hd0 : decide ((128 : Int) ≤ (k : Int)) = true := by simp; omega
        obtain ⟨bb, hbb⟩ : ∃ bb, bb = UInt8.ofNat (k % 128 + 128) := ⟨_, rfl⟩
        have HU : Hid (128 + (k : Int) % 128 = (bb.toNat : Nat)) := by show _ = _; rw [hbb, ofNat_small (by omega)]; omega
        have HE : Hid (d ++ [bb] ++ grp (k / 128) = put n) := by show _ = _; rw [hbb, ← HD.out, grp_big hs, List.append_assoc]; rfl
        clear hbb
        go_wp2_with (at_builtin; refine wpList_append_lies _ rfl _ _ 25 rfl B 5 i0 (.int .u8 0) 1 1 Tryd.underlying25 hi hz0 hz1 hz2 rfl (by decide) _ _ _ rfl (HOW.out.alloc _) ⟨wr.heap.size, 0, none⟩ 1 1 [.int .u8 (128 + (k : Int) % 128)] rfl rfl (lit_cells _ _ _) (by intro u hu; simp at hu; subst hu; rfl) (by decide) hm1 hm2 (by simp; omega) (wr.heap.size + 1) (by simp) ?_)
        intro g cap w2 hown2 hgrow hwhere hlt
        rw [HU.out, bytes_snoc] at hown2
        have HB2 : Hid (Wr w w2 (.slice none 0 0) (.slice (some ⟨g, 0, none⟩) (d.length + 1) cap)) := HB.out.trans (Wr.app hgrow (by simpa using hwhere)).alloc
        have HO2 : Hid (Out w2 B (.slice (some ⟨g, 0, none⟩) (d.length + 1) cap) (d ++ [bb])) := Out.of hown2 (by simp) rfl
        clear hown2 hgrow hwhere
        go_wp2
        go_roundw
        case rel => exact ⟨k / 128, d ++ [bb], by first | rfl | go_num, by omega, HE.out, HO2.out, HB2.out⟩
        case measure => simp [intOf]; omega
/-- the reference's same: whether two rows of bytes are alike -/
theorem bytes_eq_take {l1 l2 : List UInt8} {k : Nat} (hl : l1.length = l2.length) (hk : l1.length ≤ k) (h : l1.take k = l2.take k) : l1 = l2 := by
  rw [List.take_of_length_le hk, List.take_of_length_le (by omega)] at h
  exact h
theorem refSame_any (l1 l2 : List UInt8) (p1 p2 : Option Addr) (c1 c2 : Nat) (w : World) (h1 : In w p1 l1) (h2 : In w p2 l2) (hm : l1.length ≤ maxLen) (hm2 : l2.length ≤ maxLen) :
    Calls Tryd.prog 54 #[.slice p1 l1.length c1, .slice p2 l2.length c2] w fun e w' => e = .returned (.bool (l1 == l2)) ∧ Below w.heap.size w w' := by
  by_cases hl : l1.length = l2.length
  · obtain ⟨n, hn⟩ : ∃ n, n = l1.length := ⟨_, rfl⟩
    have HN := Lib.hid hn
    have HN2 : Hid (n = l2.length) := by show _ = _; rw [hn, hl]
    rw [← hl, ← hn]
    have hmn : n ≤ 9223372036854775807 := by rw [hn]; unfold maxLen at hm; exact hm
    have H1 := Lib.hid h1
    have H2 := Lib.hid h2
    clear hn h1 h2 hl hm hm2
    have HB : Hid (∀ m, Below w.heap.size w (w.drewN m)) := fun m => below_drewN' (Below.refl _ _) m
    go_enter Tryd.func54, Tryd.ntmps54
    go_wp2
    go_loopw [5] (fun i wr => ∃ k m : Nat, k ≤ n ∧ i = .int .i64 k ∧ wr = w.drewN m ∧ l1.take k = l2.take k) (fun i _ => n - (intOf i).toNat)
    case atStart => exact ⟨0, 0, Nat.zero_le _, rfl, rfl, rfl⟩
    case round =>
      obtain ⟨k, m, hk, rfl, hwr, htk⟩ := hrel
      have HTK := Lib.hid htk
      clear htk
      by_cases hlt : k < n
      · have hkl : k < l1.length := by rw [← HN.out]; exact hlt
        have hkl2 : k < l2.length := by rw [← HN2.out]; exact hlt
        obtain ⟨b, o, rfl, c⟩ := H1.out k hkl
        obtain ⟨b', o', rfl, c'⟩ := H2.out k hkl2
        obtain ⟨x, hx⟩ : ∃ x, x = l1[k] := ⟨_, rfl⟩
        obtain ⟨y, hy⟩ : ∃ y, y = l2[k] := ⟨_, rfl⟩
        rw [← hx] at c
        rw [← hy] at c'
        have HX := Lib.hid hx
        have HY := Lib.hid hy
        have d : wr.cell? ⟨b, o + k, none⟩ = some (.int .u8 (x.toNat : Int)) := by rw [hwr]; exact c
        have d' : wr.cell? ⟨b', o' + k, none⟩ = some (.int .u8 (y.toNat : Int)) := by rw [hwr]; exact c'
        have HWR := Lib.hid hwr
        have HT1 : Hid (l1.take (k + 1) = l1.take k ++ [x]) := by show _ = _; rw [List.take_succ_eq_append_getElem hkl, hx]
        have HT2 : Hid (l2.take (k + 1) = l2.take k ++ [y]) := by show _ = _; rw [List.take_succ_eq_append_getElem hkl2, hy]
        clear hwr c c' hx hy
        by_cases hq : x.toNat = y.toNat
        · have hq1 : ((x.toNat : Int) != (y.toNat : Int)) = false := by simp; omega
          have HQ : Hid (x = y) := UInt8.toNat_inj.1 hq
          clear hq
          go_wp2
          go_quiet (fail)
          go_wp2
          go_roundw
          case rel => exact ⟨k + 1, m + nq, by omega, by go_num, by rw [HWR.out, drewN_drewN], by rw [HT1.out, HT2.out, HTK.out, HQ.out]⟩
          case measure => simp [intOf]; omega
        · have hq1 : ((x.toNat : Int) != (y.toNat : Int)) = true := by simp; omega
          have HQ : Hid ((l1 == l2) = false) := by
            show _ = _
            cases he : l1 == l2
            · rfl
            · exfalso
              have e := beq_iff_eq.1 he
              have e1 := HX.out
              have e2 := HY.out
              subst e
              exact hq (by rw [e1, e2])
          clear hq
          go_wp2
          go_quiet (fail)
          go_wp2
          go_ret
          exact ⟨by rw [HQ.out]; rfl, by rw [HWR.out, drewN_drewN]; exact HB.out _⟩
      · have HWR := Lib.hid hwr
        have HQ : Hid ((l1 == l2) = true) := by
          show _ = _
          rw [beq_iff_eq]
          exact bytes_eq_take (by rw [← HN.out, ← HN2.out]) (by have := HN.out; omega) HTK.out
        clear hwr
        go_wp2
        go_ret
        exact ⟨by rw [HQ.out]; rfl, by rw [HWR.out]; exact HB.out m⟩
  · have hq : (((l1.length : Nat) : Int) != ((l2.length : Nat) : Int)) = true := by simp; omega
    have HQ : Hid ((l1 == l2) = false) := by
      show _ = _
      cases he : l1 == l2
      · rfl
      · exact absurd (congrArg List.length (beq_iff_eq.1 he)) hl
    obtain ⟨n1, hn1⟩ : ∃ n1, n1 = l1.length := ⟨_, rfl⟩
    obtain ⟨n2, hn2⟩ : ∃ n2, n2 = l2.length := ⟨_, rfl⟩
    rw [← hn1, ← hn2] at hq ⊢
    clear hn1 hn2 hl h1 h2 hm hm2
    go_enter Tryd.func54, Tryd.ntmps54
    go_wp2
    go_ret
    exact ⟨by rw [HQ.out]; rfl, Below.refl _ _⟩
end Go.Proofs.YtlinpkmfjkcoiaaDoor
