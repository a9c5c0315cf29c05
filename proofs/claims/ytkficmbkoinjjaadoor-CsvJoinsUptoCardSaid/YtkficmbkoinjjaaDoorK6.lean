/- The walk of the law CsvJoins. -/
import Derived.Test.YtkficmbkoinjjaaDoorP8
namespace Go.Proofs.YtkficmbkoinjjaaDoor.lawJoins
open Go Go.ChangeShapes Go.WideShapes Go.ChangeAt Go.RowKit
set_option maxHeartbeats 4000000
set_option linter.unusedVariables false
set_option linter.unusedSimpArgs false
theorem same_str (T : ByteArray) : (T.toList == T.toList) = true := by simp
set_option maxRecDepth 100000 in
theorem walk (p1 : Option Addr) (n1 c1 : Nat) (hn1 : n1 ≤ maxLen) (W : World) (hM : Mx W) (hT : Lsts W p1 n1) :
    Calls Tryd.prog 6 #[.slice p1 n1 c1] W fun e w' => e = .returned (.bool true) ∧ Below W.heap.size W w' := by
  have HM := Lib.hid hM
  have HT := Lib.hid hT
  unfold maxLen at hn1
  clear hM hT
  go_enter Tryd.func6, Tryd.ntmps6
  go_wp2_with fail
  refine (begun_any W HM.out).mono ?_
  rintro e w1 ⟨rfl, hb1⟩
  have HB1 := Lib.hid hb1
  clear hb1
  go_wp2
  go_loopw [4] (fun i wr => ∃ k : Nat, k ≤ n1 ∧ i = .int .i64 k ∧ Below W.heap.size W wr) (fun i _ => n1 - (intOf i).toNat)
  case atStart => exact ⟨0, Nat.zero_le _, rfl, HB1.out⟩
  case round =>
    obtain ⟨k, hk, rfl, hb⟩ := hrel
    have HB := Lib.hid hb
    clear hb
    by_cases hlt : k < n1
    · obtain ⟨b, o, q, rows, d, rfl, c0, hrn, hrl, hrz⟩ := (HT.out.below HB.out) k hlt
      have hbl := lt_of_cell c0
      have HRN := Lib.hid hrn
      have HRZ := Lib.hid hrz
      have HRI : Hid (∀ wx, Below wr.heap.size wr wx → RowsIn wx q rows) := fun wx hx => hrn.rowsIn.below hx
      have HRO : Hid (Calls Tryd.prog 13 #[.slice q rows.length d] wr fun e w' => ∃ ql qw dl dw, e = .returned (.tuple #[.slice ql (rows.length + 20) dl, .slice qw rows.length dw]) ∧ RowsIn w' ql (rows ++ wds.map fun x => [x]) ∧ RowsC w' qw (rows.map (· ++ wds)) ∧ rows.length + 20 ≤ dl ∧ dl ≤ maxLen ∧ Below wr.heap.size wr w') := roomy_any rows q d wr hrn hrl (fun r hr => (hrz r hr).1)
      have HJ1 : Hid (∀ wx q c, Mx wx → RowsIn wx q rows → Calls Tryd.prog 9 #[.slice q rows.length c] wx (JoinIs wx rows)) := fun wx q c hm hr => join_any rows q c wx hm hr (by unfold maxLen; omega) (fun r hr => ⟨by have := (hrz r hr).1; unfold maxLen; omega, fun c hc => by have := (hrz r hr).2 c hc; omega⟩)
      have HJ2 : Hid (∀ wx q c, RowsIn wx q rows → Calls Tryd.prog 14 #[.slice q rows.length c] wx (JoinIs wx rows)) := fun wx q c hr => refJoin_any rows q c wx hr (by unfold maxLen; omega) (fun r hr => ⟨by have := (hrz r hr).1; unfold maxLen; omega, fun c hc => by have := (hrz r hr).2 c hc; omega⟩)
      have HUT : Hid (∀ wx ql qw q cl cw c, RowsIn wx ql (rows ++ wds.map fun x => [x]) → RowsC wx qw (rows.map (· ++ wds)) → RowsIn wx q rows → Calls Tryd.prog 15 #[.slice ql (rows.length + 20) cl, .slice qw rows.length cw, .slice q rows.length c] wx fun e w' => e = .returned (.bool true) ∧ Below wx.heap.size wx w') := fun wx ql qw q cl cw c h1 h2 h3 => untouched_any rows ql qw q cl cw c wx h1 h2 h3 hrl (fun r hr => (hrz r hr).1)
      obtain ⟨T, hT⟩ : ∃ T, T = joinT rows := ⟨_, rfl⟩
      obtain ⟨F, hF⟩ : ∃ F, F = joinF rows := ⟨_, rfl⟩
      unfold JoinIs at HJ1 HJ2
      rw [← hT, ← hF] at HJ1 HJ2
      obtain ⟨n, hn⟩ : ∃ n, n = rows.length := ⟨_, rfl⟩
      rw [← hn] at c0 hrl HRO HJ1 HJ2 HUT
      clear hrn hrz hT hF hn
      go_wp2_with fail
      refine HRO.out.mono ?_
      rintro e w2 ⟨ql, qw, dl, dw, rfl, hl2, hv2, hdl1, hdl2, hb2⟩
      have HB2 : Hid (Below W.heap.size W w2) := HB.out.trans (hb2.mono HB.out.size)
      have HRI2 := Lib.hid (HRI.out w2 hb2)
      have HL2 := Lib.hid hl2
      have HV2 := Lib.hid hv2
      have d0 := (hb2.cell (p := ⟨b, o + k, none⟩) hbl).trans c0
      have hbl2 := lt_of_cell d0
      have hdl3 : dl ≤ 9223372036854775807 := hdl2
      clear c0 hl2 hv2 hdl2 hb2 HRO
      go_wp2_with fail
      refine (HJ1.out w2 _ _ (HM.out.below HB2.out HM.out.lt) HL2.out.left).mono ?_
      rintro e w3 ⟨hb3, rfl⟩
      have HB3 : Hid (Below W.heap.size W w3) := HB2.out.trans (hb3.mono HB2.out.size)
      have HRI3 := Lib.hid (HRI2.out.below hb3)
      have HL3 := Lib.hid (HL2.out.below hb3)
      have HV3 := Lib.hid (HV2.out.below hb3)
      have e0 := (hb3.cell (p := ⟨b, o + k, none⟩) hbl2).trans d0
      have hbl3 := lt_of_cell e0
      clear d0 hb3
      go_wp2_with fail
      refine (HJ2.out w3 _ _ HRI3.out).mono ?_
      rintro e w4 ⟨hb4, rfl⟩
      have HB4 : Hid (Below W.heap.size W w4) := HB3.out.trans (hb4.mono HB3.out.size)
      have HRI4 := Lib.hid (HRI3.out.below hb4)
      have HL4 := Lib.hid (HL3.out.below hb4)
      have HV4 := Lib.hid (HV3.out.below hb4)
      have f0 := (hb4.cell (p := ⟨b, o + k, none⟩) hbl3).trans e0
      clear e0 hb4
      go_wp2_with fail
      refine (HUT.out w4 _ _ _ _ _ _ HL4.out HV4.out HRI4.out).mono ?_
      rintro e w5 ⟨rfl, hb5⟩
      have HB5 : Hid (Below W.heap.size W w5) := HB4.out.trans (hb5.mono HB4.out.size)
      clear f0 hb5
      go_wp2
      go_roundw
      case rel => exact ⟨k + 1, by omega, by go_num, HB5.out⟩
      case measure => simp [intOf]; omega
    · go_wp2
      go_ret
      exact ⟨rfl, HB.out⟩
end Go.Proofs.YtkficmbkoinjjaaDoor.lawJoins
