/- The walk of the law CsvThere. -/
import Derived.Test.YtkficmbkoinjjaaDoorP7
import Derived.Test.YtkficmbkoinjjaaDoorK4
namespace Go.Proofs.YtkficmbkoinjjaaDoor
open Go Go.RowKit
set_option maxHeartbeats 4000000
set_option linter.unusedVariables false
set_option linter.unusedSimpArgs false
theorem bytes_bulk : ∀ C : List Cell, bytesOf C ≤ 4 * bulkC C
  | [] => by simp [bytesOf, bulkC]
  | c :: t => by
    have ih := bytes_bulk t
    have h1 : bytesOf (c :: t) = 2 * c.length + 4 + bytesOf t := by simp [bytesOf]
    have h2 : bulkC (c :: t) = c.length + 1 + bulkC t := by simp [bulkC]
    omega
/-- bytes or so of rows -/
def bytesAll (rows : List (List Cell)) : Nat := (rows.map bytesOf).sum
theorem all_bulk : ∀ rows : List (List Cell), bytesAll rows ≤ 4 * (rows.map bulkC).sum
  | [] => by simp [bytesAll]
  | r :: rows => by
    have ih := all_bulk rows
    have h1 := bytes_bulk r
    have h2 : bytesAll (r :: rows) = bytesOf r + bytesAll rows := by simp [bytesAll]
    simp only [List.map_cons, List.sum_cons]
    omega
theorem bytes_take {C : List Cell} {j : Nat} {c : Cell} (h : C[j]? = some c) : bytesOf (C.take (j + 1)) = bytesOf (C.take j) + (2 * c.length + 4) := by
  obtain ⟨hj, rfl⟩ := List.getElem?_eq_some_iff.1 h
  rw [take_snoc' hj]
  unfold bytesOf
  rw [List.map_append, List.sum_append]
  simp only [List.map_cons, List.map_nil, List.sum_cons, List.sum_nil]
  omega
theorem all_take {rows : List (List Cell)} {k : Nat} {r : List Cell} (h : rows[k]? = some r) : bytesAll (rows.take (k + 1)) = bytesAll (rows.take k) + bytesOf r := by
  obtain ⟨hj, rfl⟩ := List.getElem?_eq_some_iff.1 h
  rw [take_snoc' hj]
  unfold bytesAll
  rw [List.map_append, List.sum_append]
  simp only [List.map_cons, List.map_nil, List.sum_cons, List.sum_nil]
  omega
theorem all_split (rows : List (List Cell)) (k : Nat) : bytesAll rows = bytesAll (rows.take k) + bytesAll (rows.drop k) := by
  conv => lhs; rw [← List.take_append_drop k rows]
  unfold bytesAll
  rw [List.map_append, List.sum_append]
theorem bytes_split (C : List Cell) (k : Nat) : bytesOf C = bytesOf (C.take k) + bytesOf (C.drop k) := by
  conv => lhs; rw [← List.take_append_drop k C]
  unfold bytesOf
  rw [List.map_append, List.sum_append]
theorem bulk_row : ∀ {rows : List (List Cell)} {r : List Cell}, r ∈ rows → bulkC r ≤ (rows.map bulkC).sum
  | x :: rows, r, h => by
    simp only [List.map_cons, List.sum_cons]
    rcases List.mem_cons.1 h with rfl | h
    · omega
    · have := bulk_row h
      omega
theorem bulk_cell : ∀ {C : List Cell} {c : Cell}, c ∈ C → c.length + 1 ≤ bulkC C
  | x :: C, c, h => by
    have h2 : bulkC (x :: C) = x.length + 1 + bulkC C := by simp [bulkC]
    rcases List.mem_cons.1 h with rfl | h
    · omega
    · have := bulk_cell h
      omega
end Go.Proofs.YtkficmbkoinjjaaDoor
namespace Go.Proofs.YtkficmbkoinjjaaDoor.lawThere
open Go Go.ChangeShapes Go.WideShapes Go.ChangeAt Go.RowKit
set_option maxHeartbeats 4000000
set_option linter.unusedVariables false
set_option linter.unusedSimpArgs false
set_option maxRecDepth 100000 in
theorem walk (p : Option Addr) (rows : List (List Cell)) (c1 : Nat) (W : World) (hM : Mx W) (hn : rows.length ≤ maxLen) (hR : RowsIn W p rows) (hm : ∀ C ∈ rows, C.length ≤ maxLen) (hb : (rows.map bulkC).sum ≤ 1048576) :
    Calls Tryd.prog 3 #[.slice p rows.length c1] W fun e w' => e = .returned (.bool true) ∧ Below W.heap.size W w' := by
  have HM := Lib.hid hM
  have HR := Lib.hid hR
  have HMX := Lib.hid hm
  have HBK := Lib.hid hb
  obtain ⟨n, hnn⟩ : ∃ n, n = rows.length := ⟨_, rfl⟩
  have HN := Lib.hid hnn
  rw [← hnn] at hn ⊢
  have hn2 : n ≤ 9223372036854775807 := hn
  clear hM hR hm hb hnn
  go_enter Tryd.func3, Tryd.ntmps3
  go_wp2_with fail
  refine (begun_any W HM.out).mono ?_
  rintro e w1 ⟨rfl, hb1⟩
  have HB1 := Lib.hid hb1
  have HR1 := Lib.hid (HR.out.below hb1)
  have hJ := join_any rows p c1 w1 (HM.out.below hb1 HM.out.lt) HR1.out (by rw [← show n = _ from HN.out]; exact hn) (fun r hr => ⟨HMX.out r hr, fun c hc => by
    have := bulk_row hr
    have := bulk_cell hc
    have := HBK.out
    omega⟩)
  rw [← show n = _ from HN.out] at hJ
  clear hb1
  go_wp2_with fail
  refine hJ.mono ?_
  rintro e w2 ⟨hb2, rfl⟩
  have HB2 : Hid (Below W.heap.size W w2) := HB1.out.trans (hb2.mono HB1.out.size)
  have HR2 := Lib.hid (HR1.out.below hb2)
  obtain ⟨S, hS⟩ : ∃ S, S = joinT rows := ⟨_, rfl⟩
  obtain ⟨F, hF⟩ : ∃ F, F = joinF rows := ⟨_, rfl⟩
  rw [← hS, ← hF]
  have HS := Lib.hid hS
  have HF := Lib.hid hF
  clear hJ hb2 hS hF
  go_wp2
  go_loopw [6, 7] (fun bv iv wr => ∃ k : Nat, k ≤ n ∧ iv = .int .i64 k ∧ bv = .int .i64 ((bytesAll (rows.take k) : Nat) : Int) ∧ (∀ r ∈ rows.take k, r ≠ []) ∧ w2 = wr) (fun _ iv _ => n - (intOf iv).toNat)
  case atStart => exact ⟨0, Nat.zero_le _, rfl, rfl, by simp, by first | rfl | trivial⟩
  case round =>
    obtain ⟨k, hk, rfl, rfl, hne, rfl⟩ := hrel
    have HNE := Lib.hid hne
    clear hne
    by_cases hlt : k < n
    · obtain ⟨r, b, o, q, d, hr, rfl, c0, hcr⟩ := HR2.out.nth (k := k) (by rw [← show n = _ from HN.out]; exact hlt)
      have HCR := Lib.hid hcr
      have HRK := Lib.hid hr
      have hrm : r.length ≤ 9223372036854775807 := HMX.out r (List.mem_of_getElem? hr)
      obtain ⟨m, hmm⟩ : ∃ m, m = r.length := ⟨_, rfl⟩
      have HMM := Lib.hid hmm
      rw [← hmm] at c0 hrm
      by_cases h0 : m = 0
      · have d1 : ((m : Int) == 0) = true := by rw [h0]; rfl
        have e1 : F = 41 := by
          rw [HF.out]
          unfold joinF
          rw [if_pos]
          exact List.any_eq_true.2 ⟨r, List.mem_of_getElem? hr, by rw [List.isEmpty_iff]; exact List.eq_nil_of_length_eq_zero (by omega)⟩
        have e2 : S = ⟨#[]⟩ := by
          rw [HS.out]
          unfold joinT
          rw [if_neg]
          rw [← show F = _ from HF.out, e1]
          decide
        clear hr hcr hmm
        subst e1
        subst e2
        go_wp2
        go_ret
        exact ⟨rfl, HB2.out⟩
      · have d1 : ((m : Int) == 0) = false := by
          rw [beq_eq_false_iff_ne]
          omega
        obtain ⟨B0, hB0⟩ : ∃ B0, B0 = bytesAll (rows.take k) := ⟨_, rfl⟩
        have HB0 := Lib.hid hB0
        have HT := Lib.hid (all_take hr)
        have htot : B0 + bytesOf r ≤ 4194304 := by
          have h1 := all_split rows (k + 1)
          have h2 := all_bulk rows
          have h3 := HBK.out
          have h4 : bytesAll (rows.take (k + 1)) = _ := HT.out
          omega
        rw [← hB0]
        have HTOT := Lib.hid htot
        have hB0m : B0 ≤ 4194304 := by omega
        clear hr hcr hmm hB0 htot
        go_wp2
        go_loopw [6, 8] (fun bv jv wr => ∃ j : Nat, j ≤ m ∧ jv = .int .i64 j ∧ bv = .int .i64 ((B0 + bytesOf (r.take j) : Nat) : Int) ∧ w2 = wr) (fun _ jv _ => m - (intOf jv).toNat)
        case atStart => exact ⟨0, Nat.zero_le _, rfl, by simp [bytesOf], by first | rfl | trivial⟩
        case round =>
          obtain ⟨j, hj, rfl, rfl, rfl⟩ := hrel
          by_cases hjt : j < m
          · obtain ⟨c, b2, o2, hc, rfl, d0⟩ := HCR.out.nth (k := j) (by rw [← show m = _ from HMM.out]; exact hjt)
            obtain ⟨s, hs⟩ : ∃ s : ByteArray, s = ⟨c.toArray⟩ := ⟨_, rfl⟩
            have hsz : s.size = c.length := by rw [hs]; simp [ByteArray.size]
            have HBT := Lib.hid (bytes_take hc)
            have hle : B0 + bytesOf (r.take j) + (2 * s.size + 4) ≤ 4194304 := by
              have h1 := bytes_split r (j + 1)
              have h2 : bytesOf (r.take (j + 1)) = _ := HBT.out
              have h3 := HTOT.out
              omega
            rw [← hs] at d0
            obtain ⟨B, hB⟩ : ∃ B, B = B0 + bytesOf (r.take j) := ⟨_, rfl⟩
            have HB := Lib.hid hB
            have HSZ := Lib.hid hsz
            rw [← hB] at hle ⊢
            clear hc hs hsz hB
            go_wp2
            go_roundw
            case rel =>
              refine ⟨j + 1, by omega, by go_num, ?_, by first | rfl | trivial⟩
              have h2 : bytesOf (r.take (j + 1)) = _ := HBT.out
              have h3 : B = _ := HB.out
              have h4 : s.size = c.length := HSZ.out
              have h5 : B0 + bytesOf (r.take (j + 1)) = B + 2 * s.size + 4 := by omega
              rw [h5]
              go_num
            case measure => simp [intOf]; omega
          · have hjm : j = m := by omega
            have hrt : r.take j = r := List.take_of_length_le (by rw [hjm]; exact Nat.le_of_eq HMM.out.symm)
            rw [hrt]
            clear hrt
            go_wp2
            go_roundw
            case rel =>
              refine ⟨k + 1, by omega, by go_num, ?_, ?_, by first | rfl | trivial⟩
              · have h4 : bytesAll (rows.take (k + 1)) = _ := HT.out
                rw [h4, ← show B0 = _ from HB0.out]
              · intro x hx
                rw [take_snoc' (by rw [← show n = _ from HN.out]; exact hlt)] at hx
                rcases List.mem_append.1 hx with hx | hx
                · exact HNE.out x hx
                · simp only [List.mem_singleton] at hx
                  obtain ⟨hk2, hrk⟩ := List.getElem?_eq_some_iff.1 HRK.out
                  rw [hx, hrk]
                  intro e
                  have := HMM.out
                  rw [e] at this
                  exact h0 this
            case measure => simp [intOf]; omega
    · have hkn : k = n := by omega
      have hrt : rows.take k = rows := List.take_of_length_le (by rw [hkn]; exact Nat.le_of_eq HN.out.symm)
      rw [hrt]
      have hne : ∀ r ∈ rows, r ≠ [] := by have := HNE.out; rw [hrt] at this; exact this
      have hF2 : F = if 65536 < (joinL rows).length then 2 else 0 := by
        rw [HF.out]
        unfold joinF
        rw [if_neg]
        intro h
        obtain ⟨r, hr, he⟩ := List.any_eq_true.1 h
        exact hne r hr (by simpa using he)
      by_cases hlong : 65536 < (joinL rows).length
      · have e1 : F = 2 := by rw [hF2, if_pos hlong]
        have e2 : S = ⟨#[]⟩ := by
          rw [HS.out]
          unfold joinT
          rw [if_neg]
          rw [← show F = _ from HF.out, e1]
          decide
        obtain ⟨B, hB⟩ : ∃ B, B = bytesAll rows := ⟨_, rfl⟩
        have hBl : 65536 < B := by
          have := join_bytes rows hne
          rw [hB]
          exact Nat.lt_of_lt_of_le hlong this
        have d9 : decide ((65536 : Int) < (B : Int)) = true := by simp; omega
        rw [← hB]
        clear hF2 hlong hne hrt hB
        subst e1
        subst e2
        go_wp2
        go_ret
        exact ⟨rfl, HB2.out⟩
      · have e1 : F = 0 := by rw [hF2, if_neg hlong]
        have e2 : S.data.toList = joinL rows := by
          rw [HS.out]
          unfold joinT
          rw [if_pos (by rw [← show F = _ from HF.out, e1])]
        have hSs : S.size ≤ 65536 := by rw [Lib.size_eq, e2]; omega
        have d8 : decide ((S.size : Int) ≤ 65536) = true := by simp; omega
        have HSP : Hid (spl S.data.toList = .ok rows) := by
          show _ = _
          rw [e2]
          unfold spl
          rw [if_neg hlong]
          exact split_join hne
        clear hF2 hlong hne hrt e2
        subst e1
        go_wp2_with fail
        refine (split_any S w2).mono ?_
        intro e w3 hsp
        obtain ⟨q3, d3, rfl, hb3, hin3, hrd3, hdm3, hrm3⟩ := hsp.ok HSP.out
        have HB3 : Hid (Below W.heap.size W w3) := HB2.out.trans (hb3.mono HB2.out.size)
        have hSM := same_any rows q3 p d3 c1 w3 hin3 (HR2.out.below hb3) (by rw [← show n = _ from HN.out]; exact hn) HMX.out
        rw [← show n = _ from HN.out] at hSM ⊢
        clear hsp hb3 hin3 hrd3 hdm3 hrm3
        go_wp2_with fail
        refine hSM.mono ?_
        rintro e w4 ⟨rfl, hb4⟩
        have HB4 : Hid (Below W.heap.size W w4) := HB3.out.trans (hb4.mono HB3.out.size)
        clear hSM hb4
        go_wp2
        go_ret
        exact ⟨rfl, HB4.out⟩
end Go.Proofs.YtkficmbkoinjjaaDoor.lawThere
