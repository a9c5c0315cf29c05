/- The walk of the law CsvSplits. -/
import Derived.Test.YtkficmbkoinjjaaDoorF3
import Derived.Test.YtkficmbkoinjjaaDoorN2
import Derived.Deep.CutBlock
import Derived.Deep.DeepCutAuto
import Derived.Deep.CutRange
import Derived.Deep.Slices
import Derived.OpenShut
namespace Go.Proofs.YtkficmbkoinjjaaDoor
open Go Go.RowKit
set_option maxHeartbeats 4000000
set_option linter.unusedVariables false
set_option linter.unusedSimpArgs false
/-- texts, as they lie -/
def Texts (w : World) (p : Option Addr) (n : Nat) : Prop := ∀ i, i < n → ∃ b o s, p = some ⟨b, o, none⟩ ∧ w.cell? ⟨b, o + i, none⟩ = some (.string s)
theorem Texts.below {w w' : World} {p : Option Addr} {n : Nat} (h : Texts w p n) (hb : Below w.heap.size w w') : Texts w' p n := by
  intro i hi
  obtain ⟨b, o, s, e, c⟩ := h i hi
  exact ⟨b, o, s, e, (hb.cell (p := ⟨b, o + i, none⟩) (lt_of_cell c)).trans c⟩
theorem own_max {w : World} {B : Nat} {ty : TypeId} {sz n : Nat} {v : Value} {xs : List Value} (h : w.ownsRow B ty sz v n xs) : n ≤ maxLen := by
  rcases h.2 with ⟨rfl, rfl⟩ | ⟨g, cap, cur, rfl, _, hb, h2, h3, _⟩
  · exact Nat.zero_le _
  · omega
theorem split_is (l : List UInt8) : ∃ (rows : List (List Cell)) (A F : Int), ∀ w e w', SplitIs w l e w' → ∃ q d, e = .returned (.tuple #[.slice q rows.length d, .int .i64 A, .int .i64 F]) ∧ RowsIn w' q rows ∧ Below w.heap.size w w' ∧ rows.length ≤ maxLen ∧ ∀ r ∈ rows, r.length ≤ maxLen := by
  cases h : (if 65536 < l.length then Sp.bad 2 0 else splitL l) with
  | bad E at_ =>
    refine ⟨[], at_, E, fun w e w' ⟨hb, hi⟩ => ?_⟩
    rw [h] at hi
    exact ⟨none, 0, hi.1, fun i hi => absurd hi (Nat.not_lt_zero _), hb, by simp, by simp⟩
  | ok rows =>
    refine ⟨rows, 0, 0, fun w e w' ⟨hb, hi⟩ => ?_⟩
    rw [h] at hi
    obtain ⟨rs, q, d, hrs, he, hrow⟩ := hi
    have hin := hrow.rowsIn
    have hm := own_max hrow.own
    rw [hrs] at hin
    have hlen : rs.length = rows.length := by rw [← hrs, List.length_map]
    rw [hlen] at he hm
    refine ⟨q, d, he, hin, hb, hm, fun r hr => ?_⟩
    rw [← hrs] at hr
    obtain ⟨x, hx, rfl⟩ := List.mem_map.1 hr
    have := own_max (hrow.each x hx)
    simpa using this
end Go.Proofs.YtkficmbkoinjjaaDoor
namespace Go.Proofs.YtkficmbkoinjjaaDoor.lawSplits
open Go Go.ChangeShapes Go.WideShapes Go.ChangeAt Go.RowKit
set_option maxHeartbeats 4000000
set_option linter.unusedVariables false
set_option linter.unusedSimpArgs false
set_option maxRecDepth 100000 in
theorem walk (p1 : Option Addr) (n1 c1 : Nat) (hn1 : n1 ≤ maxLen) (W : World) (hM : Mx W) (hT : Texts W p1 n1) :
    Calls Tryd.prog 5 #[.slice p1 n1 c1] W fun e w' => e = .returned (.bool true) ∧ Below W.heap.size W w' := by
  have HM := Lib.hid hM
  have HT := Lib.hid hT
  unfold maxLen at hn1
  clear hM hT
  go_enter Tryd.func5, Tryd.ntmps5
  go_wp2_with fail
  refine (begun_any W HM.out).mono ?_
  rintro e w1 ⟨rfl, hb1⟩
  have HB1 := Lib.hid hb1
  clear hb1
  go_wp2
  go_loopw [4] (fun i wr => ∃ k : Nat, k ≤ n1 ∧ i = .int .i64 k ∧ Below W.heap.size W wr) (fun i _ => n1 - (intOf i).toNat)
  case atStart => exact ⟨0, Nat.zero_le _, rfl, HB1.out⟩
  case round =>
    obtain ⟨k, hk, rfl, hb⟩ := hrel
    have HB := Lib.hid hb
    clear hb
    by_cases hlt : k < n1
    · obtain ⟨b, o, s, rfl, c0⟩ := (HT.out.below HB.out) k hlt
      have hbl := lt_of_cell c0
      obtain ⟨rows, A, F, hI⟩ := split_is s.data.toList
      have HS1 : Hid (∀ wx, Calls Tryd.prog 10 #[.string s] wx fun e w' => ∃ q d, e = .returned (.tuple #[.slice q rows.length d, .int .i64 A, .int .i64 F]) ∧ RowsIn w' q rows ∧ Below wx.heap.size wx w' ∧ rows.length ≤ maxLen ∧ ∀ r ∈ rows, r.length ≤ maxLen) := fun wx => (split_any s wx).mono fun e w' h => hI wx e w' h
      have HS2 : Hid (∀ wx, Calls Tryd.prog 12 #[.string s] wx fun e w' => ∃ q d, e = .returned (.tuple #[.slice q rows.length d, .int .i64 A, .int .i64 F]) ∧ RowsIn w' q rows ∧ Below wx.heap.size wx w' ∧ rows.length ≤ maxLen ∧ ∀ r ∈ rows, r.length ≤ maxLen) := fun wx => (refSplit_any s wx).mono fun e w' h => hI wx e w' h
      have HSM : Hid (∀ p1 p2 c1 c2 wx, RowsIn wx p1 rows → RowsIn wx p2 rows → rows.length ≤ maxLen → (∀ r ∈ rows, r.length ≤ maxLen) → Calls Tryd.prog 11 #[.slice p1 rows.length c1, .slice p2 rows.length c2] wx fun e w' => e = .returned (.bool true) ∧ Below wx.heap.size wx w') := fun p1 p2 c1 c2 wx h1 h2 h3 h4 => same_any rows p1 p2 c1 c2 wx h1 h2 h3 h4
      obtain ⟨n, hn⟩ : ∃ n, n = rows.length := ⟨_, rfl⟩
      rw [← hn] at HS1 HS2 HSM
      clear hI hn
      go_wp2_with fail
      refine (HS1.out wr).mono ?_
      rintro e w2 ⟨q2, d2, rfl, hin2, hb2, hm2, hr2⟩
      have HB2 : Hid (Below W.heap.size W w2) := HB.out.trans (hb2.mono HB.out.size)
      have HI2 := Lib.hid hin2
      have HM2 := Lib.hid hm2
      have HR2 := Lib.hid hr2
      have d0 := (hb2.cell (p := ⟨b, o + k, none⟩) hbl).trans c0
      have hbl2 := lt_of_cell d0
      clear c0 hin2 hb2 hm2 hr2
      go_wp2_with fail
      refine (HS2.out w2).mono ?_
      rintro e w3 ⟨q3, d3, rfl, hin3, hb3, _, _⟩
      have HB3 : Hid (Below W.heap.size W w3) := HB2.out.trans (hb3.mono HB2.out.size)
      have HI2' := Lib.hid (HI2.out.below hb3)
      have HI3 := Lib.hid hin3
      have e0 := (hb3.cell (p := ⟨b, o + k, none⟩) hbl2).trans d0
      clear d0 hin3 hb3
      go_wp2_with fail
      refine (HSM.out q2 q3 d2 d3 w3 HI2'.out HI3.out HM2.out HR2.out).mono ?_
      rintro e w4 ⟨rfl, hb4⟩
      have HB4 : Hid (Below W.heap.size W w4) := HB3.out.trans (hb4.mono HB3.out.size)
      clear e0 hb4
      go_wp2
      go_roundw
      case rel => exact ⟨k + 1, by omega, by go_num, HB4.out⟩
      case measure => simp [intOf]; omega
    · go_wp2
      go_ret
      exact ⟨rfl, HB.out⟩
end Go.Proofs.YtkficmbkoinjjaaDoor.lawSplits
