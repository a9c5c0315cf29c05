/- The reference's PutInt and same. The laws' own function roomy: bytes with marks behind them. How the reference reads a number: plain facts. Contract of the reference's Int. -/
import Derived.Test.YtlinpkmfjkcoiaaDoorF3
import Derived.LoopTactic
import Derived.Laws.OwnMore
import Derived.Deep.RegionLaw
import Derived.IntWalk
import Derived.Deep.CutBlock
import Derived.Deep.DeepCutAuto
import Derived.Deep.CutRange
namespace Go.Proofs.YtlinpkmfjkcoiaaDoor
open Go Go.RowKit
set_option maxHeartbeats 1000000
set_option linter.unusedVariables false
set_option linter.unusedSimpArgs false
set_option maxRecDepth 100000 in
theorem refPut_any (n : Int) (h : I64 n) (w : World) :
    Calls Tryd.prog 23 #[.int .i64 n] w (Wrote w.heap.size w (.slice none 0 0) (put n)) := by
  obtain ⟨i0, hi, hz0, hz1, hz2⟩ := info_parts infoByte
  have HZ : Hid (zig n < 18446744073709551616) := zig_lt h.1 h.2
  have H10 : Hid ((put n).length ≤ 10) := grp_len10 (zig_lt h.1 h.2)
  obtain ⟨B, hB⟩ : ∃ B, B = w.heap.size := ⟨_, rfl⟩
  have HBE := Lib.hid hB
  have hcase : (n < 0 ∧ decide (n < 0) = true ∧ ((zig n : Nat) : Int) = 2 * -(n + 1) + 1) ∨ (0 ≤ n ∧ decide (n < 0) = false ∧ ((zig n : Nat) : Int) = 2 * n) := by
    unfold zig
    by_cases hn : n < 0
    · rw [if_pos hn]; exact .inl ⟨hn, by simpa using hn, by omega⟩
    · rw [if_neg hn]; exact .inr ⟨by omega, by simpa using hn, by omega⟩
  obtain ⟨h0, h1⟩ := h
  rw [← hB]
  clear hB
  rcases hcase with ⟨hn, d0, hz⟩ | ⟨hn, d0, hz⟩
  all_goals
    have HZZ := Lib.hid hz
    clear hz
    go_enter Tryd.func23, Tryd.ntmps23
    go_wp2
    go_loopw [3, 4] (fun z u wr => ∃ (k : Nat) (d : List UInt8), z = .int .u64 k ∧ k < 18446744073709551616 ∧ d ++ grp k = put n ∧ Out wr B u d ∧ Wr w wr (.slice none 0 0) u) (fun z _ _ => (intOf z).toNat)
    case atStart => exact ⟨zig n, [], by rw [HZZ.out], HZ.out, rfl, World.ownsRow_nil _ _ _ _, Wr.refl _ _⟩
    case round =>
      obtain ⟨k, d, rfl, hk, hd, hown, hb⟩ := hrel
      have hdl : d.length ≤ 9 := by
        have h1 := congrArg List.length hd
        have h2 := H10.out
        have h3 := grp_pos k
        rw [List.length_append] at h1
        omega
      have HD := Lib.hid hd
      have HB := Lib.hid hb
      have hsz := hb.g.size
      have hBr : B ≤ wr.heap.size := by have := HBE.out; omega
      have hm1 : d.length + 1 ≤ maxLen := by unfold maxLen; omega
      have hm2 : (d.length + 1) * 1 ≤ 140737488355328 := by omega
      have HOW := Lib.hid (show wr.ownsRow B 5 1 _ d.length (Lib.byteCells d) from hown)
      clear hd hb hown
      by_cases hs : k < 128
      · have hd0 : decide ((128 : Int) ≤ (k : Int)) = false := by simp; omega
        have HU : Hid ((k : Int) = ((UInt8.ofNat k).toNat : Nat)) := by show _ = _; rw [ofNat_small (by omega)]
        have HE : Hid (d ++ [UInt8.ofNat k] = put n) := by show _ = _; rw [← HD.out, grp_small hs]
        go_wp2_with (at_builtin; refine wpList_append_lies _ rfl _ _ 25 rfl B 5 i0 (.int .u8 0) 1 1 Tryd.underlying25 hi hz0 hz1 hz2 rfl (by decide) _ _ _ rfl (HOW.out.alloc _) ⟨wr.heap.size, 0, none⟩ 1 1 [.int .u8 (k : Int)] rfl rfl (lit_cells _ _ _) (by intro u hu; simp at hu; subst hu; rfl) (by decide) hm1 hm2 (by simp; omega) (wr.heap.size + 1) (by simp) ?_)
        intro g cap w2 hown2 hgrow hwhere hlt
        rw [HU.out, bytes_snoc] at hown2
        have hW2 := HB.out.trans (Wr.app (n := d.length + 1) (c := cap) hgrow (by simpa using hwhere)).alloc
        have hO2 : Out w2 B (.slice (some ⟨g, 0, none⟩) (d.length + 1) cap) (put n) := by
          rw [← HE.out]
          exact Out.of hown2 (by simp) rfl
        have HLE : Hid ((put n).length = d.length + 1) := by show _ = _; rw [← HE.out]; simp
        have HO2 := Lib.hid hO2
        have HW2 := Lib.hid hW2
        clear hown2 hgrow hwhere hO2 hW2
        go_wp2
        go_ret
        exact ⟨some ⟨g, 0, none⟩, cap, by rw [HLE.out]; rfl, by rw [HLE.out]; exact HO2.out, by rw [HLE.out]; exact HW2.out⟩
      · have hd0 : decide ((128 : Int) ≤ (k : Int)) = true := by simp; omega
        obtain ⟨bb, hbb⟩ : ∃ bb, bb = UInt8.ofNat (k % 128 + 128) := ⟨_, rfl⟩
        have HU : Hid (128 + (k : Int) % 128 = (bb.toNat : Nat)) := by show _ = _; rw [hbb, ofNat_small (by omega)]; omega
        have HE : Hid (d ++ [bb] ++ grp (k / 128) = put n) := by show _ = _; rw [hbb, ← HD.out, grp_big hs, List.append_assoc]; rfl
        clear hbb
        go_wp2_with (at_builtin; refine wpList_append_lies _ rfl _ _ 25 rfl B 5 i0 (.int .u8 0) 1 1 Tryd.underlying25 hi hz0 hz1 hz2 rfl (by decide) _ _ _ rfl (HOW.out.alloc _) ⟨wr.heap.size, 0, none⟩ 1 1 [.int .u8 (128 + (k : Int) % 128)] rfl rfl (lit_cells _ _ _) (by intro u hu; simp at hu; subst hu; rfl) (by decide) hm1 hm2 (by simp; omega) (wr.heap.size + 1) (by simp) ?_)
        intro g cap w2 hown2 hgrow hwhere hlt
        rw [HU.out, bytes_snoc] at hown2
        have HB2 : Hid (Wr w w2 (.slice none 0 0) (.slice (some ⟨g, 0, none⟩) (d.length + 1) cap)) := HB.out.trans (Wr.app hgrow (by simpa using hwhere)).alloc
        have HO2 : Hid (Out w2 B (.slice (some ⟨g, 0, none⟩) (d.length + 1) cap) (d ++ [bb])) := Out.of hown2 (by simp) rfl
        clear hown2 hgrow hwhere
        go_wp2
        go_roundw
        case rel => exact ⟨k / 128, d ++ [bb], by first | rfl | go_num, by omega, HE.out, HO2.out, HB2.out⟩
        case measure => simp [intOf]; omega
/-- the reference's same: whether two rows of bytes are alike -/
theorem bytes_eq_take {l1 l2 : List UInt8} {k : Nat} (hl : l1.length = l2.length) (hk : l1.length ≤ k) (h : l1.take k = l2.take k) : l1 = l2 := by
  rw [List.take_of_length_le hk, List.take_of_length_le (by omega)] at h
  exact h
theorem refSame_any (l1 l2 : List UInt8) (p1 p2 : Option Addr) (c1 c2 : Nat) (w : World) (h1 : In w p1 l1) (h2 : In w p2 l2) (hm : l1.length ≤ maxLen) (hm2 : l2.length ≤ maxLen) :
    Calls Tryd.prog 54 #[.slice p1 l1.length c1, .slice p2 l2.length c2] w fun e w' => e = .returned (.bool (l1 == l2)) ∧ Below w.heap.size w w' := by
  by_cases hl : l1.length = l2.length
  · obtain ⟨n, hn⟩ : ∃ n, n = l1.length := ⟨_, rfl⟩
    have HN := Lib.hid hn
    have HN2 : Hid (n = l2.length) := by show _ = _; rw [hn, hl]
    rw [← hl, ← hn]
    have hmn : n ≤ 9223372036854775807 := by rw [hn]; unfold maxLen at hm; exact hm
    have H1 := Lib.hid h1
    have H2 := Lib.hid h2
    clear hn h1 h2 hl hm hm2
    have HB : Hid (∀ m, Below w.heap.size w (w.drewN m)) := fun m => below_drewN' (Below.refl _ _) m
    go_enter Tryd.func54, Tryd.ntmps54
    go_wp2
    go_loopw [5] (fun i wr => ∃ k m : Nat, k ≤ n ∧ i = .int .i64 k ∧ wr = w.drewN m ∧ l1.take k = l2.take k) (fun i _ => n - (intOf i).toNat)
    case atStart => exact ⟨0, 0, Nat.zero_le _, rfl, rfl, rfl⟩
    case round =>
      obtain ⟨k, m, hk, rfl, hwr, htk⟩ := hrel
      have HTK := Lib.hid htk
      clear htk
      by_cases hlt : k < n
      · have hkl : k < l1.length := by rw [← HN.out]; exact hlt
        have hkl2 : k < l2.length := by rw [← HN2.out]; exact hlt
        obtain ⟨b, o, rfl, c⟩ := H1.out k hkl
        obtain ⟨b', o', rfl, c'⟩ := H2.out k hkl2
        obtain ⟨x, hx⟩ : ∃ x, x = l1[k] := ⟨_, rfl⟩
        obtain ⟨y, hy⟩ : ∃ y, y = l2[k] := ⟨_, rfl⟩
        rw [← hx] at c
        rw [← hy] at c'
        have HX := Lib.hid hx
        have HY := Lib.hid hy
        have d : wr.cell? ⟨b, o + k, none⟩ = some (.int .u8 (x.toNat : Int)) := by rw [hwr]; exact c
        have d' : wr.cell? ⟨b', o' + k, none⟩ = some (.int .u8 (y.toNat : Int)) := by rw [hwr]; exact c'
        have HWR := Lib.hid hwr
        have HT1 : Hid (l1.take (k + 1) = l1.take k ++ [x]) := by show _ = _; rw [List.take_succ_eq_append_getElem hkl, hx]
        have HT2 : Hid (l2.take (k + 1) = l2.take k ++ [y]) := by show _ = _; rw [List.take_succ_eq_append_getElem hkl2, hy]
        clear hwr c c' hx hy
        by_cases hq : x.toNat = y.toNat
        · have hq1 : ((x.toNat : Int) != (y.toNat : Int)) = false := by simp; omega
          have HQ : Hid (x = y) := UInt8.toNat_inj.1 hq
          clear hq
          go_wp2
          go_quiet (fail)
          go_wp2
          go_roundw
          case rel => exact ⟨k + 1, m + nq, by omega, by go_num, by rw [HWR.out, drewN_drewN], by rw [HT1.out, HT2.out, HTK.out, HQ.out]⟩
          case measure => simp [intOf]; omega
        · have hq1 : ((x.toNat : Int) != (y.toNat : Int)) = true := by simp; omega
          have HQ : Hid ((l1 == l2) = false) := by
            show _ = _
            cases he : l1 == l2
            · rfl
            · exfalso
              have e := beq_iff_eq.1 he
              have e1 := HX.out
              have e2 := HY.out
              subst e
              exact hq (by rw [e1, e2])
          clear hq
          go_wp2
          go_quiet (fail)
          go_wp2
          go_ret
          exact ⟨by rw [HQ.out]; rfl, by rw [HWR.out, drewN_drewN]; exact HB.out _⟩
      · have HWR := Lib.hid hwr
        have HQ : Hid ((l1 == l2) = true) := by
          show _ = _
          rw [beq_iff_eq]
          exact bytes_eq_take (by rw [← HN.out, ← HN2.out]) (by have := HN.out; omega) HTK.out
        clear hwr
        go_wp2
        go_ret
        exact ⟨by rw [HQ.out]; rfl, by rw [HWR.out]; exact HB.out m⟩
  · have hq : (((l1.length : Nat) : Int) != ((l2.length : Nat) : Int)) = true := by simp; omega
    have HQ : Hid ((l1 == l2) = false) := by
      show _ = _
      cases he : l1 == l2
      · rfl
      · exact absurd (congrArg List.length (beq_iff_eq.1 he)) hl
    obtain ⟨n1, hn1⟩ : ∃ n1, n1 = l1.length := ⟨_, rfl⟩
    obtain ⟨n2, hn2⟩ : ∃ n2, n2 = l2.length := ⟨_, rfl⟩
    rw [← hn1, ← hn2] at hq ⊢
    clear hn1 hn2 hl h1 h2 hm hm2
    go_enter Tryd.func54, Tryd.ntmps54
    go_wp2
    go_ret
    exact ⟨by rw [HQ.out]; rfl, Below.refl _ _⟩
end Go.Proofs.YtlinpkmfjkcoiaaDoor
namespace Go.Proofs.YtlinpkmfjkcoiaaDoor
open Go Go.RowKit
set_option maxHeartbeats 1000000
set_option linter.unusedVariables false
set_option linter.unusedSimpArgs false
def room66 (l : List UInt8) : List UInt8 := l ++ (List.range 66).map fun i => UInt8.ofNat (137 + i)
theorem room_len (l : List UInt8) : (room66 l).length = l.length + 66 := by simp [room66]
theorem room_front {l : List UInt8} {k : Nat} (h : k < l.length) : (Lib.byteCells (room66 l))[k]? = some (.int .u8 (l[k].toNat : Int)) := by
  unfold Lib.byteCells room66
  rw [List.getElem?_map, List.getElem?_append_left h, List.getElem?_eq_getElem h]
  rfl
theorem room_back {l : List UInt8} {k : Nat} (h : l.length ≤ k) (h2 : k < l.length + 66) : (Lib.byteCells (room66 l))[k]? = some (.int .u8 (137 + (k : Int) - (l.length : Int))) := by
  unfold Lib.byteCells room66
  rw [List.getElem?_map, List.getElem?_append_right h, List.getElem?_map, List.getElem?_range (by omega)]
  simp only [Option.map_some]
  rw [ofNat_small (by omega)]
  congr 2
  omega
theorem own_frozen {w : World} {B g n c : Nat} {xs : List Value} (h : w.ownsRow B 5 1 (.slice (some ⟨g, 0, none⟩) n c) n xs) (i : Nat) : w.frozen? ⟨g, i, none⟩ = false := by
  rcases h.2 with ⟨h1, _⟩ | ⟨g', cap, cur, h1, _, hb, _⟩
  · cases h1
  · simp only [Value.slice.injEq, Option.some.injEq, Addr.mk.injEq, and_true] at h1
    obtain ⟨rfl, _⟩ := h1
    simp [World.frozen?, hb]
theorem own_cell {w : World} {B g n c : Nat} {xs : List Value} (h : w.ownsRow B 5 1 (.slice (some ⟨g, 0, none⟩) n c) n xs) {i : Nat} {u : Value} (hi : xs[i]? = some u) : w.cell? ⟨g, i, none⟩ = some u := by
  have := h.cells (g := g) rfl i u hi
  rw [Addr.add_lit] at this
  simpa using this
/-- so many bytes are filled in -/
structure Filled (w wr : World) (G N : Nat) (l : List UInt8) (k : Nat) (xs : List Value) : Prop where
  own : wr.ownsRow G 5 1 (.slice (some ⟨G, 0, none⟩) N N) N xs
  len : xs.length = N
  blw : Below G w wr
  done : ∀ j, j < k → xs[j]? = (Lib.byteCells (room66 l))[j]?
theorem Filled.set {w wr : World} {G N : Nat} {l : List UInt8} {k j : Nat} {xs : List Value} (h : Filled w wr G N l k xs) (hj : k ≤ j) (u : Value) : Filled w (wr.setCell ⟨G, j, none⟩ u) G N l k (xs.set j u) :=
  ⟨(h.own.stored j u).1, by rw [List.length_set]; exact h.len, h.blw.setCell (Nat.le_refl _) _, fun i hi => by rw [List.getElem?_set_ne (by omega)]; exact h.done i hi⟩
theorem Filled.put {w wr : World} {G N : Nat} {l : List UInt8} {k : Nat} {xs : List Value} (h : Filled w wr G N l k xs) (hk : k < N) {u : Value} (hu : (Lib.byteCells (room66 l))[k]? = some u) : Filled w (wr.setCell ⟨G, k, none⟩ u) G N l (k + 1) (xs.set k u) := by
  have h1 := h.set (Nat.le_refl k) u
  refine ⟨h1.own, h1.len, h1.blw, fun i hi => ?_⟩
  by_cases hik : i = k
  · subst hik
    rw [List.getElem?_set_self (by rw [h.len]; exact hk), hu]
  · exact h1.done i (by omega)
set_option maxRecDepth 100000 in
theorem roomy_any (l : List UInt8) (p : Option Addr) (c : Nat) (w : World) (h : In w p l) (hm : l.length ≤ 140737488351232) :
    Calls Tryd.prog 24 #[.slice p l.length c] w fun e w' => e = .returned (.slice (some ⟨w.heap.size, 0, none⟩) (l.length + 66) (l.length + 66)) ∧ In w' (some ⟨w.heap.size, 0, none⟩) (room66 l) ∧ Below w.heap.size w w' := by
  obtain ⟨i0, hi, hz0, hz1, hz2⟩ := info_parts infoByte
  obtain ⟨G, hG⟩ : ∃ G, G = w.heap.size := ⟨_, rfl⟩
  obtain ⟨n, hn⟩ : ∃ n, n = l.length := ⟨_, rfl⟩
  obtain ⟨w1, hmk, hown, hgr⟩ := run_make_full (P := Tryd.prog) w G 25 5 i0 (.int .u8 0) 1 Tryd.underlying25 hi hz0 hz1 .i64 .i64 (n + 66) (by rw [hz2]; omega) (by unfold maxLen; omega) (by omega)
  rw [← hn] at hm ⊢
  rw [← hG] at hmk hown ⊢
  have hmk' : (Instr.makeSlice 25 (.int .i64 ((n : Int) + 66)) (.int .i64 ((n : Int) + 66))).run Tryd.prog w = .ok (.slice (some ⟨G, 0, none⟩) (n + 66) (n + 66)) w1 := by
    have e : ((n : Int) + 66) = ((n + 66 : Nat) : Int) := by omega
    rw [e]
    exact hmk
  have HN := Lib.hid hn
  have HI := Lib.hid h
  have HG := Lib.hid hG
  have hf : Filled w w1 G (n + 66) l 0 _ := ⟨hown, by have := hown.1; simpa using this, ⟨hgr.os, hgr.tape, hgr.output, hgr.size, fun k hk => hgr.block k (by omega) (by simp)⟩, fun j hj => absurd hj (Nat.not_lt_zero _)⟩
  have HF := Lib.hid hf
  have hsz : w.heap.size ≤ w1.heap.size := hgr.size
  clear hmk hown hgr hn h hf hG
  go_enter Tryd.func24, Tryd.ntmps24
  go_wp2
  go_loopw [5] (fun i wr => ∃ (k : Nat) (xs : List Value), k ≤ n + 66 ∧ i = .int .i64 k ∧ Filled w wr G (n + 66) l k xs) (fun i _ => n + 66 - (intOf i).toNat)
  case atStart => exact ⟨0, _, Nat.zero_le _, rfl, HF.out⟩
  case round =>
    obtain ⟨k, xs, hk, rfl, hfl⟩ := hrel
    have FL := Lib.hid hfl
    clear hfl hmk'
    by_cases hlt : k < n + 66
    · have hkx : k < xs.length := by rw [FL.out.len]; exact hlt
      have c0 := own_cell FL.out.own (List.getElem?_eq_getElem hkx)
      have z0 := own_frozen FL.out.own k
      by_cases hkn : k < n
      · have hkl : k < l.length := by rw [← HN.out]; exact hkn
        obtain ⟨b, o, rfl, d⟩ := HI.out k hkl
        have hbl := lt_of_cell d
        have hbG : b ≠ G := by have := HG.out; omega
        have d0 := (FL.out.blw.cell (p := ⟨b, o + k, none⟩) (by show b < G; have := HG.out; omega)).trans d
        obtain ⟨x, hx⟩ : ∃ x, x = l[k] := ⟨_, rfl⟩
        rw [← hx] at d0
        have HX := Lib.hid hx
        obtain ⟨u, hu⟩ : ∃ u, u = xs[k] := ⟨_, rfl⟩
        rw [← hu] at c0
        clear d hx hu
        go_wp2
        go_roundw
        case rel => exact ⟨k + 1, _, by omega, by go_num, (FL.out.set (Nat.le_refl k) _).put (by omega) (by rw [room_front (by rw [← HN.out]; exact hkn), HX.out])⟩
        case measure => simp [intOf]; omega
      · obtain ⟨u, hu⟩ : ∃ u, u = xs[k] := ⟨_, rfl⟩
        rw [← hu] at c0
        clear hu
        have hRB : Hid ((Lib.byteCells (room66 l))[k]? = some (.int .u8 (137 + (k : Int) - (n : Int)))) := by
          show _ = _
          rw [HN.out]
          exact room_back (by rw [← HN.out]; omega) (by rw [← HN.out]; omega)
        go_wp2
        go_roundw
        case rel => exact ⟨k + 1, _, by omega, by go_num, FL.out.put (by omega) hRB.out⟩
        case measure => simp [intOf]; omega
    · have hkk : k = n + 66 := by omega
      subst hkk
      go_wp2
      go_ret
      refine ⟨rfl, ?_, FL.out.blw⟩
      intro i hi
      rw [room_len, ← HN.out] at hi
      refine ⟨G, 0, rfl, ?_⟩
      have hx := FL.out.done i hi
      have hr : (Lib.byteCells (room66 l))[i]? = some (.int .u8 ((room66 l)[i]'(by rw [room_len, ← HN.out]; exact hi)).toNat) := by
        unfold Lib.byteCells
        rw [List.getElem?_map, List.getElem?_eq_getElem (by rw [room_len, ← HN.out]; exact hi)]
        rfl
      rw [hr] at hx
      rw [Nat.zero_add]
      exact own_cell FL.out.own hx
end Go.Proofs.YtlinpkmfjkcoiaaDoor
namespace Go.Proofs.YtlinpkmfjkcoiaaDoor
set_option maxHeartbeats 1000000
set_option linter.unusedVariables false
/-- groups put together -/
def zval : List UInt8 → Nat
  | [] => 0
  | b :: t => b.toNat % 128 + 128 * zval t
theorem zval_snoc : ∀ (l : List UInt8) (b : UInt8), zval (l ++ [b]) = zval l + 128 ^ l.length * (b.toNat % 128)
  | [], b => by simp [zval]
  | a :: l, b => by
    have := zval_snoc l b
    rw [List.cons_append, zval, zval, this, List.length_cons, Nat.pow_succ, Nat.mul_add, Nat.mul_comm (128 ^ l.length) 128, Nat.mul_assoc]
    omega
theorem zval_lt : ∀ (l : List UInt8), zval l < 128 ^ l.length
  | [] => by simp [zval]
  | a :: l => by
    have := zval_lt l
    rw [zval, List.length_cons, Nat.pow_succ]
    omega
theorem zval_take {l : List UInt8} {k : Nat} (h : k < l.length) : zval (l.take (k + 1)) = zval (l.take k) + 128 ^ k * (l[k].toNat % 128) := by
  rw [List.take_succ_eq_append_getElem h, zval_snoc, List.length_take, Nat.min_eq_left (by omega)]
/-- so many bytes are followed by another one -/
def Lead (l : List UInt8) (n : Nat) : Prop := ∀ j (h : j < l.length), j < n → 128 ≤ l[j].toNat
theorem Lead.zero (l : List UInt8) : Lead l 0 := fun j _ h => absurd h (Nat.not_lt_zero _)
theorem Lead.succ {l : List UInt8} {n : Nat} (h : Lead l n) (hn : n < l.length) (hb : 128 ≤ l[n].toNat) : Lead l (n + 1) := fun j hj hjn => by
  by_cases e : j = n
  · subst e; exact hb
  · exact h j hj (by omega)
theorem Lead.tail {b : UInt8} {l : List UInt8} {n : Nat} (h : Lead (b :: l) (n + 1)) : Lead l n := fun j hj hjn => h (j + 1) (by simpa using hj) (by omega)
theorem rdz_last : ∀ (n i : Nat) (l : List UInt8) (hn : n < l.length), i + n ≤ 9 → Lead l n → l[n].toNat < 128 → (i + n = 9 → l[n].toNat ≤ 1) → rdz i l = if l[n].toNat = 0 ∧ i + n ≠ 0 then .bad 31 else .ok (zval (l.take (n + 1))) (n + 1)
  | 0, i, b :: t, hn, h9, hl, hb, h1 => by
    simp only [List.getElem_cons_zero, Nat.add_zero] at hb h1 ⊢
    simp only [rdz]
    rw [if_neg (by omega), if_pos hb]
    have e : zval ((b :: t).take 1) = b.toNat := by simp [zval]; omega
    rw [e]
  | n + 1, i, b :: t, hn, h9, hl, hb, h1 => by
    simp only [List.getElem_cons_succ] at hb h1 ⊢
    have hb0 := hl 0 (by simp) (by omega)
    simp only [List.getElem_cons_zero] at hb0
    simp only [rdz]
    rw [if_neg (by omega), if_neg (by omega), rdz_last n (i + 1) t (by simpa using hn) (by omega) hl.tail hb (by intro h; exact h1 (by omega))]
    have hn' : n < t.length := by simpa using hn
    by_cases hz : t[n].toNat = 0
    · rw [if_pos ⟨hz, by omega⟩, if_pos ⟨hz, by omega⟩]
    · rw [if_neg (fun h => hz h.1), if_neg (fun h => hz h.1)]
      simp [zval]
theorem rdz_great : ∀ (n i : Nat) (l : List UInt8) (hn : n < l.length), i + n = 9 → Lead l n → 1 < l[n].toNat → rdz i l = .bad 31
  | 0, i, b :: t, hn, h9, hl, hb => by
    simp only [List.getElem_cons_zero] at hb
    simp only [rdz]
    rw [if_pos ⟨by omega, hb⟩]
  | n + 1, i, b :: t, hn, h9, hl, hb => by
    simp only [List.getElem_cons_succ] at hb
    have hb0 := hl 0 (by simp) (by omega)
    simp only [List.getElem_cons_zero] at hb0
    simp only [rdz]
    rw [if_neg (by omega), if_neg (by omega), rdz_great n (i + 1) t (by simpa using hn) (by omega) hl.tail hb]
theorem rdz_end : ∀ (l : List UInt8) (i : Nat), i + l.length ≤ 9 → Lead l l.length → rdz i l = .bad 30
  | [], i, _, _ => rfl
  | b :: t, i, h9, hl => by
    have hb0 := hl 0 (by simp) (by simp)
    simp only [List.getElem_cons_zero] at hb0
    simp only [List.length_cons] at h9 hl
    simp only [rdz]
    rw [if_neg (by omega), if_neg (by omega), rdz_end t (i + 1) (by omega) hl.tail]
theorem num_end {l : List UInt8} (h9 : l.length ≤ 9) (hl : Lead l l.length) : num l = .bad 30 := by
  unfold num
  rw [rdz_end l 0 (by omega) hl]
theorem num_great {l : List UInt8} (h9 : 9 < l.length) (hl : Lead l 9) (hb : 1 < l[9].toNat) : num l = .bad 31 := by
  unfold num
  rw [rdz_great 9 0 l h9 (by omega) hl hb]
/-- what is read is what would be written, or it is refused -/
theorem num_last {l : List UInt8} {n : Nat} (hn : n < l.length) (h9 : n ≤ 9) (hl : Lead l n) (hb : l[n].toNat < 128) (h1 : n = 9 → l[n].toNat ≤ 1) :
    ((put (zag (zval (l.take (n + 1)))) == l.take (n + 1)) = true ∧ num l = .ok (zag (zval (l.take (n + 1)))) (n + 1)) ∨ ((put (zag (zval (l.take (n + 1)))) == l.take (n + 1)) = false ∧ num l = .bad 31) := by
  have hr := rdz_last n 0 l hn (by omega) hl hb (by intro h; exact h1 (by omega))
  by_cases hz : l[n].toNat = 0 ∧ 0 + n ≠ 0
  · rw [if_pos hz] at hr
    refine .inr ⟨?_, by unfold num; rw [hr]⟩
    cases he : (put (zag (zval (l.take (n + 1)))) == l.take (n + 1))
    · rfl
    · exfalso
      have e := beq_iff_eq.1 he
      have hlen : (l.take (n + 1)).length = n + 1 := by rw [List.length_take]; omega
      have hget : ∀ j (h : j < n + 1), (l.take (n + 1))[j]'(by omega) = l[j]'(by omega) := fun j h => List.getElem_take
      have hr2 := rdz_last n 0 (l.take (n + 1)) (by omega) (by omega) (fun j hj hjn => by rw [hget j (by omega)]; exact hl j (by omega) hjn) (by rw [hget n (by omega)]; exact hb) (by rw [hget n (by omega)]; intro h; exact h1 (by omega))
      rw [if_pos (by rw [hget n (by omega)]; exact hz)] at hr2
      have hlt : zval (l.take (n + 1)) < room 0 := by
        rw [room0]
        have hv := zval_take hn
        have h2 := zval_lt (l.take n)
        rw [List.length_take, Nat.min_eq_left (by omega)] at h2
        have h3 : 128 ^ n ≤ 128 ^ 9 := Nat.pow_le_pow_right (by omega) h9
        have h4 : l[n].toNat % 128 = 0 := by omega
        rw [h4] at hv
        have h5 : (128 : Nat) ^ 9 = 9223372036854775808 := by decide
        omega
      have hp := rdz_put 9 0 (zval (l.take (n + 1))) [] rfl (by omega) hlt (.inl rfl)
      unfold put at e
      rw [zig_zag] at e
      rw [List.append_nil, e, hr2] at hp
      cases hp
  · rw [if_neg hz] at hr
    obtain ⟨_, h2, _, _⟩ := rdz_back l 0 _ _ (by omega) hr
    refine .inl ⟨?_, by unfold num; rw [hr]⟩
    rw [beq_iff_eq]
    unfold put
    rw [zig_zag]
    exact h2.symm
theorem zval_64 {l : List UInt8} {n : Nat} (hn : n < l.length) (h9 : n ≤ 9) (h1 : n = 9 → l[n].toNat ≤ 1) : zval (l.take (n + 1)) < 18446744073709551616 := by
  have hv := zval_take hn
  have h2 := zval_lt (l.take n)
  rw [List.length_take, Nat.min_eq_left (by omega)] at h2
  by_cases h : n = 9
  · subst h
    have h5 : (128 : Nat) ^ 9 = 9223372036854775808 := by decide
    have h6 := h1 rfl
    have h7 : l[9].toNat % 128 = l[9].toNat := Nat.mod_eq_of_lt (by omega)
    rw [h7] at hv
    rw [h5] at h2 hv
    omega
  · have h3 : 128 ^ n ≤ 128 ^ 8 := Nat.pow_le_pow_right (by omega) (by omega)
    have h5 : (128 : Nat) ^ 8 = 72057594037927936 := by decide
    have h4 : 128 ^ n * (l[n].toNat % 128) ≤ 128 ^ 8 * 127 := Nat.mul_le_mul h3 (by omega)
    omega
/-- a step of the loop that puts the groups together -/
theorem zstep {l : List UInt8} {n i : Nat} (hn : n < l.length) (h9 : n ≤ 9) (h1 : n = 9 → l[n].toNat ≤ 1) (hi : i ≤ n) (x : Nat) (hx : x = (l[i]'(by omega)).toNat) :
    IntKind.u64.wrap (((zval (l.take i) : Nat) : Int) + IntKind.u64.wrap ((x : Int) % 128 * ((128 ^ i % 18446744073709551616 : Nat) : Int))) = ((zval (l.take (i + 1)) : Nat) : Int) := by
  have hv := zval_take (l := l) (k := i) (by omega)
  rw [← hx] at hv
  have h64 : zval (l.take (i + 1)) < 18446744073709551616 := zval_64 (by omega) (by omega) (by
    intro h
    have : i = n := by omega
    subst this
    exact h1 h)
  have h3 : 128 ^ i ≤ 128 ^ 9 := Nat.pow_le_pow_right (by omega) (by omega)
  have h5 : (128 : Nat) ^ 9 = 9223372036854775808 := by decide
  have e1 : 128 ^ i % 18446744073709551616 = 128 ^ i := Nat.mod_eq_of_lt (by omega)
  rw [e1]
  have e2 : (x : Int) % 128 * ((128 ^ i : Nat) : Int) = ((128 ^ i * (x % 128) : Nat) : Int) := by
    rw [Int.natCast_mul, Int.mul_comm]
    rfl
  rw [e2, IntKind.wrap_u64, IntKind.wrap_u64]
  generalize hq : 128 ^ i * (x % 128) = q at hv
  omega
theorem tstep (i : Nat) : IntKind.u64.wrap (((128 ^ i % 18446744073709551616 : Nat) : Int) * 128) = ((128 ^ (i + 1) % 18446744073709551616 : Nat) : Int) := by
  rw [IntKind.wrap_u64, Nat.pow_succ]
  generalize 128 ^ i = q
  omega
end Go.Proofs.YtlinpkmfjkcoiaaDoor
namespace Go.Proofs.YtlinpkmfjkcoiaaDoor
open Go Go.RowKit
set_option maxHeartbeats 1000000
set_option linter.unusedVariables false
set_option linter.unusedSimpArgs false
theorem run_front1 (p : Option Addr) (k n c : Nat) (hk : k + 1 ≤ c) (w : World) : (Instr.slice 25 (.slice p n c) none (some (.int .i64 ((k : Int) + 1))) none).run Tryd.prog w = .ok (.slice p (k + 1) c) w := by
  have := run_front p (k + 1) n c hk w
  rw [← this]
  rfl
attribute [local go_sem ↓] run_front run_front1
theorem In.take {w : World} {p : Option Addr} {l : List UInt8} (h : In w p l) (n : Nat) : In w p (l.take n) := by
  intro i hi
  obtain ⟨b, o, e, c⟩ := h i (by rw [List.length_take] at hi; omega)
  exact ⟨b, o, e, by rw [List.getElem_take]; exact c⟩
set_option maxRecDepth 100000 in
theorem refInt_any (p : Option Addr) (c : Nat) (l : List UInt8) (w : World) (h : In w p l) (hc : l.length ≤ c) (hm : c ≤ maxLen) : Calls Tryd.prog 25 #[.slice p l.length c] w (IntIs w l) := by
  obtain ⟨m, hml⟩ : ∃ m, m = l.length := ⟨_, rfl⟩
  have HM := Lib.hid hml
  have HI := Lib.hid h
  have hcm : c ≤ 9223372036854775807 := by unfold maxLen at hm; exact hm
  rw [← hml] at hc ⊢
  clear hml h hm
  go_enter Tryd.func25, Tryd.ntmps25
  go_wp2
  go_loop [5] (fun i => ∃ k : Nat, k ≤ m ∧ k ≤ 10 ∧ i = .int .i64 k ∧ Lead l k) (fun i => 10 - (intOf i).toNat)
  case atStart => exact ⟨0, Nat.zero_le _, by omega, rfl, Lead.zero l⟩
  case round =>
    obtain ⟨k, hk, hk10, rfl, hlead⟩ := hrel
    have HL := Lib.hid hlead
    clear hlead
    by_cases hlt : k < m
    · have hkl : k < l.length := by rw [← HM.out]; exact hlt
      obtain ⟨b, o, rfl, d⟩ := HI.out k hkl
      obtain ⟨x, hx⟩ : ∃ x, x = l[k].toNat := ⟨_, rfl⟩
      rw [← hx] at d
      have HX := Lib.hid hx
      have dl : decide ((k : Int) < (m : Int)) = true := by simp; omega
      clear hx
      by_cases h10 : k < 10
      · have d10 : decide ((k : Int) < 10) = true := by simp; omega
        by_cases h128 : 128 ≤ x
        · have d128 : decide ((128 : Int) ≤ (x : Int)) = true := by simp; omega
          go_wp2
          go_round
          case rel => exact ⟨k + 1, by omega, by omega, by go_num, HL.out.succ hkl (by rw [← HX.out]; exact h128)⟩
          case measure => simp [intOf]; omega
        · have d128 : decide ((128 : Int) ≤ (x : Int)) = false := by simp; omega
          have e10 : ((k : Int) == 10) = false := by simp; omega
          by_cases h9 : k = 9 ∧ 1 < x
          · obtain ⟨rfl, hx1⟩ := h9
            have e9 : (((9 : Nat) : Int) == 9) = true := by simp
            have dx : decide ((1 : Int) < (x : Int)) = true := by simp; omega
            have hnum : Hid (num l = .bad 31) := num_great hkl HL.out (by rw [← HX.out]; exact hx1)
            go_wp2
            first | go_ret3 | skip
            refine ⟨Below.refl _ _, ?_⟩
            rw [hnum.out]
            exact ⟨rfl, by decide⟩
          · skip
            have HXB : Hid (x < 128) := by show _ < _; omega
            have HX9 : Hid (k = 9 → x ≤ 1) := fun h => by
              rcases Nat.lt_or_ge 1 x with h2 | h2
              · exact absurd ⟨h, h2⟩ h9
              · exact h2
            have e9 : ∃ b9 : Bool, ((k : Int) == 9) = b9 := ⟨_, rfl⟩
            have hkk9 : k ≤ 9 := by omega
            have ekm : ((k : Int) == (m : Int)) = false := by simp; omega
            have hx0 : (k = 9 ∧ ((k : Int) == 9) = true ∧ decide ((1 : Int) < (x : Int)) = false) ∨ (((k : Int) == 9) = false) := by
              by_cases h : k = 9
              · exact .inl ⟨h, by simp; omega, by simp; omega⟩
              · exact .inr (by simp; omega)
            clear e9
            have HNL : Hid (((put (zag (zval (l.take (k + 1)))) == l.take (k + 1)) = true ∧ num l = .ok (zag (zval (l.take (k + 1)))) (k + 1)) ∨ ((put (zag (zval (l.take (k + 1)))) == l.take (k + 1)) = false ∧ num l = .bad 31)) :=
              num_last hkl hkk9 HL.out (by rw [← HX.out]; exact HXB.out) (by rw [← HX.out]; exact HX9.out)
            have HZ64 : Hid (zval (l.take (k + 1)) < 18446744073709551616) := zval_64 hkl hkk9 (by rw [← HX.out]; exact HX9.out)
            have HST : Hid (∀ i (hi : i ≤ k) (y : Nat), y = (l[i]'(by omega)).toNat → IntKind.u64.wrap (((zval (l.take i) : Nat) : Int) + IntKind.u64.wrap ((y : Int) % 128 * ((128 ^ i % 18446744073709551616 : Nat) : Int))) = ((zval (l.take (i + 1)) : Nat) : Int)) :=
              fun i hi y hy => zstep hkl hkk9 (by rw [← HX.out]; exact HX9.out) hi y hy
            have d9 : k = 9 → w.cell? ⟨b, o + 9, none⟩ = some (.int .u8 (x : Int)) := fun h => by subst h; exact d
            have m9 : k = 9 → (9 : Int) < (m : Int) := fun h => by omega
            clear HX9
            rcases hx0 with ⟨h, g9, gx⟩ | g9
            have d9' := d9 h
            have m9' := m9 h
            have HK9 := Lib.hid h
            all_goals
              clear h9 d9 m9
            clear h
            all_goals
              go_upto_region 8 with fail
              go_wp2
              go_loop [6, 7, 8] (fun z t i => ∃ j : Nat, j ≤ k + 1 ∧ i = .int .i64 j ∧ z = .int .u64 (zval (l.take j)) ∧ t = .int .u64 ((128 ^ j % 18446744073709551616 : Nat) : Int)) (fun _ _ i => k + 2 - (intOf i).toNat)
              case atStart => exact ⟨0, by omega, rfl, by simp [zval], by simp⟩
              case round =>
                obtain ⟨j, hj, rfl, rfl, rfl⟩ := hrel
                by_cases hjk : j ≤ k
                · have hjl : j < l.length := by have := HM.out; omega
                  obtain ⟨b', o', e', dj⟩ := HI.out j hjl
                  simp only [Option.some.injEq, Addr.mk.injEq, and_true] at e'
                  obtain ⟨rfl, rfl⟩ := e'
                  obtain ⟨y, hy⟩ : ∃ y, y = (l[j]'hjl).toNat := ⟨_, rfl⟩
                  rw [← hy] at dj
                  have HS1 := Lib.hid (HST.out j hjk y hy)
                  have HT1 := Lib.hid (tstep j)
                  have dj2 : decide ((j : Int) ≤ (k : Int)) = true := by simp; omega
                  have hjm : j < m := by omega
                  obtain ⟨zz, hzz⟩ : ∃ zz, zz = zval (l.take j) := ⟨_, rfl⟩
                  obtain ⟨tt, htt⟩ : ∃ tt, tt = 128 ^ j % 18446744073709551616 := ⟨_, rfl⟩
                  rw [← hzz, ← htt] at HS1
                  rw [← htt] at HT1
                  rw [← hzz, ← htt]
                  clear hzz htt hy
                  go_wp2
                  go_round
                  case rel => exact ⟨j + 1, by omega, by go_num, by rw [HS1.out], by rw [HT1.out]⟩
                  case measure => simp [intOf]; omega
                · have hjj : j = k + 1 := by omega
                  have dj2 : decide ((j : Int) ≤ (k : Int)) = false := by simp; omega
                  subst hjj
                  obtain ⟨zz, hzz⟩ : ∃ zz, zz = zval (l.take (k + 1)) := ⟨_, rfl⟩
                  rw [← hzz] at HNL HZ64 ⊢
                  have HZZ := Lib.hid hzz
                  have hz64 := HZ64.out
                  clear hzz
                  obtain ⟨v, hv⟩ : ∃ v, v = zag zz := ⟨_, rfl⟩
                  have HVI : Hid (I64 v) := by show I64 v; rw [hv]; exact zag_in hz64
                  rw [← hv] at HNL
                  have hpar : (((zz : Int) % 2 == 1) = true ∧ v = -((zz : Int) / 2) - 1) ∨ (((zz : Int) % 2 == 1) = false ∧ v = (zz : Int) / 2) := by
                    rw [hv]
                    unfold zag
                    by_cases hp : zz % 2 = 1
                    · rw [if_pos hp]; exact .inl ⟨by simp; omega, by omega⟩
                    · rw [if_neg hp]; exact .inr ⟨by simp; omega, by omega⟩
                  have hkc : k + 1 ≤ c := by omega
                  clear hv
                  rcases hpar with ⟨hp, hv⟩ | ⟨hp, hv⟩
                  all_goals
                    have HV := Lib.hid hv
                    clear hv
                    go_upto_region 17 with fail
                    rw [← show v = _ from HV.out]
                    obtain ⟨L, hLL⟩ : ∃ L, L = put v := ⟨_, rfl⟩
                    obtain ⟨M, hMM⟩ : ∃ M, M = l.take (k + 1) := ⟨_, rfl⟩
                    rw [← hLL, ← hMM] at HNL
                    have HML : Hid (M.length = k + 1) := by show _ = _; rw [hMM, List.length_take]; omega
                    have HMI : Hid (In w (some ⟨b, o, none⟩) M) := by show In _ _ _; rw [hMM]; exact In.take HI.out _
                    have HPUT : Hid (∀ wx, Below w.heap.size w wx → Calls Tryd.prog 23 #[.int .i64 v] wx fun e w' => ∃ q d, e = .returned (.slice q L.length d) ∧ Below w.heap.size w w' ∧ In w' q L) := fun wx hx => by rw [hLL]; exact (refPut_any v HVI.out wx).mono fun e w' ⟨q, d, he, ho, hw⟩ => ⟨q, d, he, hx.trans ((hw.below (Out.nil wx wx.heap.size) (Nat.le_refl _)).mono hx.size), ho.inn.1⟩
                    have HSM : Hid (∀ wx q d, Below w.heap.size w wx → In wx q L → Calls Tryd.prog 54 #[.slice q L.length d, .slice (some ⟨b, o, none⟩) (k + 1) c] wx fun e w' => e = .returned (.bool (L == M)) ∧ Below w.heap.size w w') := fun wx q d hx hq => by
                      have h1 := (refSame_any L M q (some ⟨b, o, none⟩) d c wx hq (HMI.out.below hx) (by rw [hLL]; have := put_len HVI.out; unfold maxLen; omega) (by rw [HML.out]; unfold maxLen; omega))
                      rw [HML.out] at h1
                      exact h1.mono fun e w' ⟨he, hb⟩ => ⟨he, hx.trans (hb.mono hx.size)⟩
                    clear hLL hMM
                    go_cut [82] from 75 to 82 (fun s wx => s = .bool (!(L == M)) ∧ Below w.heap.size w wx)
                    case first =>
                      have f3 : (k : Int) + 1 ≤ (c : Int) := by omega
                      have f2 : 0 ≤ (k : Int) + 1 := by omega
                      have f4 : ((k : Int) + 1).toNat = k + 1 := by omega
                      have f1 : IntKind.i64.wrap ((k : Int) + 1) = (k : Int) + 1 := IntWalk.i64_in _ (by omega)
                      clear dj2 ekm e10 d128 dl d10 hcm HST
                      go_region_law (first | (go_simp; go_at_call 23; refine (HPUT.out w.drew (Below.refl _ _).drew).mono ?_; rintro e w2 ⟨q, d2, rfl, hb2, hin2⟩; have HB2 := Lib.hid hb2; have HIN2 := Lib.hid hin2; clear hb2 hin2) | (go_simp; go_at_call 54; refine (HSM.out _ _ _ HB2.out HIN2.out).mono ?_; rintro e w3 ⟨rfl, hb3⟩; have HB3 := Lib.hid hb3; clear hb3))
                      all_goals
                        go_wp2
                        go_meet
                        exact ⟨rfl, HB3.out⟩
                    case rest =>
                    obtain ⟨rfl, hwb⟩ := hcut
                    have HWB := Lib.hid hwb
                    clear hwb
                    rcases HNL.out with ⟨hq, hnum⟩ | ⟨hq, hnum⟩
                    · have HNUM := Lib.hid hnum
                      rw [hq]
                      clear hnum hq
                      go_wp2
                      first | go_ret3 | skip
                      refine ⟨HWB.out, ?_⟩
                      rw [HNUM.out]
                      rfl
                    · have HNUM := Lib.hid hnum
                      rw [hq]
                      clear hnum hq
                      go_wp2
                      first | go_ret3 | skip
                      refine ⟨HWB.out, ?_⟩
                      rw [HNUM.out]
                      exact ⟨rfl, by decide⟩
      · have hk : k = 10 := by omega
        subst hk
        have e10 : (((10 : Nat) : Int) == 10) = true := by simp
        have d10 : decide (((10 : Nat) : Int) < 10) = false := by simp
        have hnum : Hid (num l = .bad 31) := num_great (by omega) (fun j hj hjn => HL.out j hj (by omega)) (by have := HL.out 9 (by omega) (by omega); omega)
        go_wp2
        first | go_ret3 | skip
        refine ⟨Below.refl _ _, ?_⟩
        rw [hnum.out]
        exact ⟨rfl, by decide⟩
    · have dl : decide ((k : Int) < (m : Int)) = false := by simp; omega
      have hkm : k = m := by omega
      have HKM := Lib.hid hkm
      by_cases hk10' : k = 10
      · have e10 : ((k : Int) == 10) = true := by simp; omega
        have HK10 := Lib.hid hk10'
        have hnum : Hid (num l = .bad 31) := num_great (by have := HM.out; omega) (fun j hj hjn => HL.out j hj (by omega)) (by have := HL.out 9 (by have := HM.out; omega) (by omega); omega)
        clear hkm hk10'
        go_wp2
        first | go_ret3 | skip
        refine ⟨Below.refl _ _, ?_⟩
        rw [hnum.out]
        exact ⟨rfl, by decide⟩
      · have e10 : ((k : Int) == 10) = false := by simp; omega
        have ekm : ((k : Int) == (m : Int)) = true := by simp; omega
        have hnum : Hid (num l = .bad 30) := num_end (by have := HM.out; omega) (by have := HM.out; have h := HL.out; rw [hkm, this] at h; exact h)
        have hx0 : (((k : Int) == 9) = true) ∨ (((k : Int) == 9) = false) := by cases ((k : Int) == 9) <;> simp
        clear hkm hk10'
        rcases hx0 with g9 | g9
        · go_wp2
          first | go_ret3 | skip
          refine ⟨Below.refl _ _, ?_⟩
          rw [hnum.out]
          exact ⟨rfl, by decide⟩
        · go_wp2
          first | go_ret3 | skip
          refine ⟨Below.refl _ _, ?_⟩
          rw [hnum.out]
          exact ⟨rfl, by decide⟩
end Go.Proofs.YtlinpkmfjkcoiaaDoor
