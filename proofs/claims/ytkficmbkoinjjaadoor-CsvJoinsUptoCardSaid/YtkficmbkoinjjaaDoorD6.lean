/- The law's own untouched. -/
import Derived.Test.YtkficmbkoinjjaaDoorD5
import Derived.IntWalk
namespace Go.Proofs.YtkficmbkoinjjaaDoor
open Go Go.RowKit
set_option maxHeartbeats 8000000
set_option linter.unusedVariables false
set_option linter.unusedSimpArgs false
theorem mark_same (k : Nat) : ((⟨(wd k).toArray⟩ : ByteArray).toList == (⟨(wd k).toArray⟩ : ByteArray).toList) = true := by simp
set_option maxRecDepth 100000 in
theorem untouched_any (rows : List (List Cell)) (ql qw p : Option Addr) (cl cw c : Nat) (w : World) (hL : RowsIn w ql (rows ++ wds.map fun x => [x])) (hV : RowsC w qw (rows.map (· ++ wds))) (hR : RowsIn w p rows) (hn : rows.length ≤ 1048576) (hsz : ∀ r ∈ rows, r.length ≤ 1048576) :
    Calls Tryd.prog 15 #[.slice ql (rows.length + 20) cl, .slice qw rows.length cw, .slice p rows.length c] w fun e w' => e = .returned (.bool true) ∧ Below w.heap.size w w' := by
  obtain ⟨n, hnn⟩ : ∃ n, n = rows.length := ⟨_, rfl⟩
  have HN := Lib.hid hnn
  rw [← hnn] at hn ⊢
  have HL := Lib.hid hL
  have HV := Lib.hid hV
  have HR := Lib.hid hR
  have HSZ := Lib.hid hsz
  clear hnn hL hV hR hsz
  go_enter Tryd.func15, Tryd.ntmps15
  go_wp2
  go_loopw [8] (fun kv wx => ∃ k : Nat, k ≤ 20 ∧ kv = .int .i64 k ∧ Below w.heap.size w wx) (fun kv _ => 20 - (intOf kv).toNat)
  case atStart => exact ⟨0, Nat.zero_le _, rfl, Below.refl _ _⟩
  case round =>
    obtain ⟨k, hk, rfl, hb⟩ := hrel
    have HB := Lib.hid hb
    clear hb
    by_cases hlt : k < 20
    · have hkl : n + k < (rows ++ wds.map fun x => [x]).length := by rw [List.length_append, List.length_map, wds_len, ← show n = _ from HN.out]; omega
      obtain ⟨r, b, o, q, d, hr, rfl, c0w, hcw⟩ := HL.out.nth hkl
      have hre : r = [wd k] := by
        rw [show n = _ from HN.out, List.getElem?_append_right (by omega), Nat.add_sub_cancel_left, List.getElem?_map, wds_get hlt] at hr
        exact (Option.some.inj hr).symm
      subst hre
      obtain ⟨cc, b2, o2, hcc, rfl, d0w⟩ := hcw.nth (k := 0) (by simp)
      have hce : cc = wd k := by simpa using hcc.symm
      subst hce
      have c0 := (HB.out.cell (p := ⟨b, o + (n + k), none⟩) (lt_of_cell c0w)).trans c0w
      have d0 := (HB.out.cell (p := ⟨b2, o2 + 0, none⟩) (lt_of_cell d0w)).trans d0w
      obtain ⟨e, he⟩ : ∃ e, e = n + k := ⟨_, rfl⟩
      have hwr : IntKind.i64.wrap ((n : Int) + (k : Int)) = (e : Int) := by rw [IntWalk.i64_in _ (by omega)]; omega
      have hbd0 : (0 : Int) ≤ (e : Int) := by omega
      have hbd : (e : Int) < (n : Int) + 20 := by omega
      rw [← he] at c0
      have hl1 := lt_of_cell c0
      have hl2 := lt_of_cell d0
      obtain ⟨M, hM⟩ : ∃ M : ByteArray, M = ⟨(wd k).toArray⟩ := ⟨_, rfl⟩
      have HW : Hid (∀ wx, Calls Tryd.prog 25 #[.int .i64 k] wx fun e w' => e = .returned (.string M) ∧ Below wx.heap.size wx w') := fun wx => by rw [hM]; exact word_any k hlt wx
      rw [← hM] at d0
      simp only [List.length_cons, List.length_nil, Nat.add_zero, Nat.zero_add] at c0 d0
      have HS : Hid (∀ wx, Below wr.heap.size wr wx → Below wr.heap.size wr wx ∧ wx.cell? ⟨b, o + e, none⟩ = some (.slice (some ⟨b2, o2, none⟩) 1 d) ∧ wx.cell? ⟨b2, o2, none⟩ = some (.string M)) := fun wx hx => ⟨hx, (hx.cell (p := ⟨b, o + e, none⟩) hl1).trans c0, (hx.cell (p := ⟨b2, o2, none⟩) hl2).trans d0⟩
      clear hkl hr hcw c0w d0w hcc hM he
      go_wp2
      go_region_held3 (fun wx => Below wr.heap.size wr wx ∧ wx.cell? ⟨b, o + e, none⟩ = some (.slice (some ⟨b2, o2, none⟩) 1 d) ∧ wx.cell? ⟨b2, o2, none⟩ = some (.string M))
        ((refine HS.out _ ?_; first | assumption | exact Below.refl _ _ | exact (Below.refl _ _).drew | exact held_below (by assumption)))
        (first | (go_at_call 25; refine (HW.out _).mono ?_; rintro e w2 ⟨rfl, hb2⟩; have hB2 : Below wr.heap.size wr w2 := held_on (by assumption) hb2))
      all_goals
        have HB2 : Hid (Below w.heap.size w w2) := HB.out.trans (hB2.mono HB.out.size)
        clear c0 d0
        go_wp2
        go_roundw
        case rel => exact ⟨k + 1, by omega, by go_num, HB2.out⟩
        case measure => simp [intOf]; omega
    · obtain ⟨wo, rfl⟩ : ∃ x : World, x = wr := ⟨_, rfl⟩
      go_wp2
      go_loopw [9] (fun iv wx => ∃ i : Nat, i ≤ n ∧ iv = .int .i64 i ∧ Below w.heap.size w wx) (fun iv _ => n - (intOf iv).toNat)
      case atStart => exact ⟨0, Nat.zero_le _, rfl, HB.out⟩
      case round =>
        obtain ⟨i, hi, rfl, hb⟩ := hrel
        have HBI := Lib.hid hb
        clear hb
        by_cases hit : i < n
        · have hil : i < rows.length := by rw [← show n = _ from HN.out]; exact hit
          obtain ⟨r, b3, o3, q3, d3, hr, rfl, c3w, hc3⟩ := HR.out.nth hil
          obtain ⟨r1, b1, o1, q1, d1, hr1, rfl, c1w, hc1⟩ := HL.out.nth (k := i) (by rw [List.length_append]; omega)
          have hr1e : r1 = r := by
            rw [List.getElem?_append_left hil, hr] at hr1
            exact (Option.some.inj hr1).symm
          subst hr1e
          obtain ⟨b2, o2, q2, d2, rfl, c2w, hc2, hcap1, hcap2⟩ := HV.out i (by rw [List.length_map]; exact hil)
          have hr2 : (rows.map (· ++ wds))[i]'(by rw [List.length_map]; exact hil) = r1 ++ wds := by
            rw [List.getElem_map, (List.getElem?_eq_some_iff.1 hr).2]
          rw [hr2] at c2w hc2 hcap1
          have hl2 : (r1 ++ wds).length = r1.length + 20 := by rw [List.length_append, wds_len]
          rw [hl2] at c2w hcap1
          have hm6 := HSZ.out r1 (List.mem_of_getElem? hr)
          have HC1 : Hid (∀ wx, Below w.heap.size w wx → CellsIn wx q1 r1 ∧ CellsIn wx q3 r1 ∧ CellsIn wx q2 (r1 ++ wds)) := fun wx hx => ⟨hc1.below hx, hc3.below hx, hc2.below hx⟩
          have HSR1 : Hid (∀ wx q d, Below wr.heap.size wr wx → (q = q1 ∧ d = d1) ∨ (q = q2 ∧ d = d2) → Calls Tryd.prog 18 #[.slice q r1.length d, .slice q3 r1.length d3] wx fun e w' => e = .returned (.bool true) ∧ Below wx.heap.size wx w') := fun wx q d hx hq => by
            have := HC1.out wx (HBI.out.trans (hx.mono HBI.out.size))
            rcases hq with ⟨rfl, rfl⟩ | ⟨rfl, rfl⟩
            · exact sameRow_any r1 _ q3 _ d3 wx this.1 this.2.1 (by unfold maxLen; omega)
            · exact sameRow_any r1 _ q3 _ d3 wx this.2.2.left this.2.1 (by unfold maxLen; omega)
          have c1 := (HBI.out.cell (p := ⟨b1, o1 + i, none⟩) (lt_of_cell c1w)).trans c1w
          have c2 := (HBI.out.cell (p := ⟨b2, o2 + i, none⟩) (lt_of_cell c2w)).trans c2w
          have c3 := (HBI.out.cell (p := ⟨b3, o3 + i, none⟩) (lt_of_cell c3w)).trans c3w
          have hl1 := lt_of_cell c1
          have hl2 := lt_of_cell c2
          have hl3 := lt_of_cell c3
          obtain ⟨m, hm⟩ : ∃ m, m = r1.length := ⟨_, rfl⟩
          have HM := Lib.hid hm
          rw [← hm] at c1 c2 c3 HSR1 hcap1 hm6
          have hd2 : d2 ≤ 9223372036854775807 := hcap2
          have hmd0 : (0 : Int) ≤ (m : Int) := by omega
          have hmd : (m : Int) ≤ (d2 : Int) := by omega
          have hil2 : (i : Int) < (n : Int) + 20 := by omega
          have HS : Hid (∀ wx, Below wr.heap.size wr wx → Below wr.heap.size wr wx ∧ wx.cell? ⟨b1, o1 + i, none⟩ = some (.slice q1 m d1) ∧ wx.cell? ⟨b2, o2 + i, none⟩ = some (.slice q2 (m + 20) d2) ∧ wx.cell? ⟨b3, o3 + i, none⟩ = some (.slice q3 m d3)) := fun wx hx => ⟨hx, (hx.cell (p := ⟨b1, o1 + i, none⟩) hl1).trans c1, (hx.cell (p := ⟨b2, o2 + i, none⟩) hl2).trans c2, (hx.cell (p := ⟨b3, o3 + i, none⟩) hl3).trans c3⟩
          clear hil hr hr1 hr2 c1w c2w c3w hc1 hc2 hc3 hcap2 hm
          go_wp2
          go_region_held3 (fun wx => Below wr.heap.size wr wx ∧ wx.cell? ⟨b1, o1 + i, none⟩ = some (.slice q1 m d1) ∧ wx.cell? ⟨b2, o2 + i, none⟩ = some (.slice q2 (m + 20) d2) ∧ wx.cell? ⟨b3, o3 + i, none⟩ = some (.slice q3 m d3))
            ((refine HS.out _ ?_; first | assumption | exact Below.refl _ _ | exact (Below.refl _ _).drew | exact held_below (by assumption)))
            (first | (go_at_call 18; refine (HSR1.out _ _ _ (held_below (by assumption)) (by first | exact .inl ⟨rfl, rfl⟩ | exact .inr ⟨rfl, rfl⟩)).mono ?_; rintro e w2 ⟨rfl, hb2⟩; have hB2 : Below wr.heap.size wr w2 := held_on (by assumption) hb2))
          all_goals
            have HB2 : Hid (Below w.heap.size w w2) := HBI.out.trans (hB2.mono HBI.out.size)
            have x2 := (hB2.cell (p := ⟨b2, o2 + i, none⟩) hl2).trans c2
            clear c1 c2 c3 hl1 hl2 hl3
            obtain ⟨wq, rfl⟩ : ∃ x : World, x = wr := ⟨_, rfl⟩
            go_wp2
            go_loopw [11] (fun jv wx => ∃ j : Nat, j ≤ 20 ∧ jv = .int .i64 j ∧ Below w2.heap.size w2 wx) (fun jv _ => 20 - (intOf jv).toNat)
            case atStart => exact ⟨0, Nat.zero_le _, rfl, Below.refl _ _⟩
            case round =>
              obtain ⟨j, hj, rfl, hb⟩ := hrel
              have HBJ := Lib.hid hb
              clear hb
              by_cases hjt : j < 20
              · have hcx := (HC1.out wr (HB2.out.trans (HBJ.out.mono HB2.out.size))).2.2
                obtain ⟨cc, b4, o4, hcc, rfl, d0⟩ := hcx.nth (k := m + j) (by rw [List.length_append, wds_len, ← show m = _ from HM.out]; omega)
                have hce : cc = wd j := by
                  rw [show m = _ from HM.out, List.getElem?_append_right (by omega), Nat.add_sub_cancel_left, wds_get hjt] at hcc
                  exact (Option.some.inj hcc).symm
                subst hce
                have y2 := (HBJ.out.cell (p := ⟨b2, o2 + i, none⟩) (lt_of_cell x2)).trans x2
                obtain ⟨e, he⟩ : ∃ e, e = m + j := ⟨_, rfl⟩
                have hwr : IntKind.i64.wrap ((m : Int) + (j : Int)) = (e : Int) := by rw [IntWalk.i64_in _ (by omega)]; omega
                have hbd0 : (0 : Int) ≤ (e : Int) := by omega
                have hbd : (e : Int) < (m : Int) + 20 := by omega
                rw [← he] at d0
                have hl5 := lt_of_cell y2
                have hl6 := lt_of_cell d0
                obtain ⟨M, hM⟩ : ∃ M : ByteArray, M = ⟨(wd j).toArray⟩ := ⟨_, rfl⟩
                have HW : Hid (∀ wx, Calls Tryd.prog 25 #[.int .i64 j] wx fun e w' => e = .returned (.string M) ∧ Below wx.heap.size wx w') := fun wx => by rw [hM]; exact word_any j hjt wx
                rw [← hM] at d0
                have HS6 : Hid (∀ wx, Below wr.heap.size wr wx → Below wr.heap.size wr wx ∧ wx.cell? ⟨b2, o2 + i, none⟩ = some (.slice (some ⟨b4, o4, none⟩) (m + 20) d2) ∧ wx.cell? ⟨b4, o4 + e, none⟩ = some (.string M)) := fun wx hx => ⟨hx, (hx.cell (p := ⟨b2, o2 + i, none⟩) hl5).trans y2, (hx.cell (p := ⟨b4, o4 + e, none⟩) hl6).trans d0⟩
                clear hcx hcc hM he x2
                go_wp2
                go_region_held3 (fun wx => Below wr.heap.size wr wx ∧ wx.cell? ⟨b2, o2 + i, none⟩ = some (.slice (some ⟨b4, o4, none⟩) (m + 20) d2) ∧ wx.cell? ⟨b4, o4 + e, none⟩ = some (.string M))
                  ((refine HS6.out _ ?_; first | assumption | exact Below.refl _ _ | exact (Below.refl _ _).drew | exact held_below (by assumption)))
                  (first | (go_at_call 25; refine (HW.out _).mono ?_; rintro e w2 ⟨rfl, hb2⟩; have hB6 : Below wr.heap.size wr w2 := held_on (by assumption) hb2))
                all_goals
                  have HB6 := Lib.hid (HBJ.out.trans (hB6.mono HBJ.out.size))
                  clear d0 y2
                  go_wp2
                  go_roundw
                  case rel => exact ⟨j + 1, by omega, by go_num, HB6.out⟩
                  case measure => simp [intOf]; omega
              · have HB7 : Hid (Below w.heap.size w wr) := HB2.out.trans (HBJ.out.mono HB2.out.size)
                clear x2
                go_wp2
                go_roundw
                case rel => exact ⟨i + 1, by omega, by go_num, HB7.out⟩
                case measure => simp [intOf]; omega
        · go_wp2
          go_ret
          exact ⟨rfl, HBI.out⟩
end Go.Proofs.YtkficmbkoinjjaaDoor
