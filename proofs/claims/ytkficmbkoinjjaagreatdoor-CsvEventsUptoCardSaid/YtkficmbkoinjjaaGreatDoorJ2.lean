/- Package csv's Join. -/
import Derived.Test.YtkficmbkoinjjaaGreatDoorJ1
namespace Go.Proofs.YtkficmbkoinjjaaGreatDoor
open Go Go.RowKit
set_option maxHeartbeats 4000000
set_option linter.unusedVariables false
set_option linter.unusedSimpArgs false
/-- cells with a comma between each two -/
def cellsW : List Cell → List UInt8
  | [] => []
  | c :: t => cellW c ++ t.flatMap fun c => 44 :: cellW c
theorem cellsW_snoc (C : List Cell) (c : Cell) : cellsW (C ++ [c]) = if C = [] then cellW c else cellsW C ++ 44 :: cellW c := by
  cases C with
  | nil => simp [cellsW]
  | cons x t => simp [cellsW]
def rowW (C : List Cell) : List UInt8 := cellsW C ++ [13, 10]
def joinL (rows : List (List Cell)) : List UInt8 := rows.flatMap rowW
theorem take_snoc' {α : Type} {l : List α} {k : Nat} (h : k < l.length) : l.take (k + 1) = l.take k ++ [l[k]] := List.take_succ_eq_append_getElem h
theorem cellsW_take {C : List Cell} {k : Nat} (h : k < C.length) : cellsW (C.take (k + 1)) = if k = 0 then cellW C[k] else cellsW (C.take k) ++ 44 :: cellW C[k] := by
  rw [take_snoc' h, cellsW_snoc]
  by_cases hk : k = 0
  · subst hk; simp
  · have : C.take k ≠ [] := fun e => by
      have := congrArg List.length e
      rw [List.length_take] at this
      simp only [List.length_nil] at this
      omega
    rw [if_neg this, if_neg hk]
theorem cellsW_app {A : List Cell} (B : List Cell) (h : A ≠ []) : cellsW (A ++ B) = cellsW A ++ B.flatMap fun c => 44 :: cellW c := by
  cases A with
  | nil => exact absurd rfl h
  | cons x t => simp [cellsW]
theorem cellsW_le {C : List Cell} {k : Nat} : (cellsW (C.take k)).length ≤ (cellsW C).length := by
  by_cases h : C.take k = []
  · rw [h]; exact Nat.zero_le _
  · conv => rhs; rw [← List.take_append_drop k C, cellsW_app _ h]
    simp
theorem joinL_take {rows : List (List Cell)} {i : Nat} (h : i < rows.length) : joinL (rows.take (i + 1)) = joinL (rows.take i) ++ rowW rows[i] := by
  unfold joinL
  rw [take_snoc' h, List.flatMap_append]
  simp
theorem joinL_le {rows : List (List Cell)} {i : Nat} (h : i < rows.length) : (joinL (rows.take i)).length + (rowW rows[i]).length ≤ (joinL rows).length := by
  have h1 : joinL rows = joinL (rows.take (i + 1)) ++ joinL (rows.drop (i + 1)) := by
    unfold joinL
    rw [← List.flatMap_append, List.take_append_drop]
  rw [h1, joinL_take h]
  simp
def CellsIn (w : World) (p : Option Addr) (C : List Cell) : Prop := ∀ j (h : j < C.length), ∃ b o, p = some ⟨b, o, none⟩ ∧ w.cell? ⟨b, o + j, none⟩ = some (.string ⟨C[j].toArray⟩)
theorem CellsIn.below {w w' : World} {p : Option Addr} {C : List Cell} (h : CellsIn w p C) (hb : Below w.heap.size w w') : CellsIn w' p C := by
  intro j hj
  obtain ⟨b, o, e, c⟩ := h j hj
  exact ⟨b, o, e, (hb.cell (p := ⟨b, o + j, none⟩) (lt_of_cell c)).trans c⟩
def RowsIn (w : World) (p : Option Addr) (rows : List (List Cell)) : Prop := ∀ i (h : i < rows.length), ∃ b o q d, p = some ⟨b, o, none⟩ ∧ w.cell? ⟨b, o + i, none⟩ = some (.slice q rows[i].length d) ∧ CellsIn w q rows[i]
theorem RowsIn.below {w w' : World} {p : Option Addr} {rows : List (List Cell)} (h : RowsIn w p rows) (hb : Below w.heap.size w w') : RowsIn w' p rows := by
  intro i hi
  obtain ⟨b, o, q, d, e, c, hc⟩ := h i hi
  exact ⟨b, o, q, d, e, (hb.cell (p := ⟨b, o + i, none⟩) (lt_of_cell c)).trans c, hc.below hb⟩
theorem RowsIn.nth {w : World} {p : Option Addr} {rows : List (List Cell)} (h : RowsIn w p rows) {k : Nat} (hk : k < rows.length) : ∃ (r : List Cell) (b o : Nat) (q : Option Addr) (d : Nat), rows[k]? = some r ∧ p = some ⟨b, o, none⟩ ∧ w.cell? ⟨b, o + k, none⟩ = some (.slice q r.length d) ∧ CellsIn w q r := by
  obtain ⟨b, o, q, d, e, c, hc⟩ := h k hk
  exact ⟨_, b, o, q, d, List.getElem?_eq_getElem hk, e, c, hc⟩
theorem CellsIn.nth {w : World} {p : Option Addr} {C : List Cell} (h : CellsIn w p C) {k : Nat} (hk : k < C.length) : ∃ (c : Cell) (b o : Nat), C[k]? = some c ∧ p = some ⟨b, o, none⟩ ∧ w.cell? ⟨b, o + k, none⟩ = some (.string ⟨c.toArray⟩) := by
  obtain ⟨b, o, e, c⟩ := h k hk
  exact ⟨_, b, o, List.getElem?_eq_getElem hk, e, c⟩
/-- what Join answers -/
def joinF (rows : List (List Cell)) : Int := if rows.any (·.isEmpty) then 41 else if 65536 < (joinL rows).length then 2 else 0
def joinT (rows : List (List Cell)) : ByteArray := if joinF rows = 0 then ⟨(joinL rows).toArray⟩ else ⟨#[]⟩
def JoinIs (w : World) (rows : List (List Cell)) (e : Ending) (w' : World) : Prop := Below w.heap.size w w' ∧ e = .returned (.tuple #[.string (joinT rows), .int .i64 (joinF rows)])
set_option maxRecDepth 100000 in
theorem join_any (rows : List (List Cell)) (p : Option Addr) (c : Nat) (w : World) (hM : Mx w) (hr : RowsIn w p rows) (hn : rows.length ≤ maxLen) (hsz : ∀ r ∈ rows, r.length ≤ maxLen ∧ ∀ c ∈ r, c.length ≤ 100000000) :
    Calls Tryz.prog 23 #[.slice p rows.length c] w (JoinIs w rows) := by
  obtain ⟨i5, hi5, b0, b1, b2⟩ := info_parts infoByte
  obtain ⟨n, hnn⟩ : ∃ n, n = rows.length := ⟨_, rfl⟩
  have HN := Lib.hid hnn
  rw [← hnn] at hn ⊢
  have HR := Lib.hid hr
  have HMM := Lib.hid hM
  have HSZ := Lib.hid hsz
  unfold maxLen at hn
  clear hnn hr hM hsz
  go_enter Tryz.func23, Tryz.ntmps23
  go_wp2
  go_loopw [13] (fun iv wr => ∃ k : Nat, k ≤ n ∧ iv = .int .i64 k ∧ wr = w ∧ ∀ r ∈ rows.take k, r ≠ []) (fun iv _ => n - (intOf iv).toNat)
  case atStart => exact ⟨0, Nat.zero_le _, rfl, rfl, by simp⟩
  case round =>
    obtain ⟨k, hk, rfl, rfl, hne⟩ := hrel
    have HNE := Lib.hid hne
    clear hne
    by_cases hlt : k < n
    · have hkl : k < rows.length := by rw [← HN.out]; exact hlt
      obtain ⟨r, b, o, q, d, hr, rfl, c0, hc⟩ := HR.out.nth hkl
      have hrm : r ∈ rows := List.mem_of_getElem? hr
      have hmm := (HSZ.out r hrm).1
      obtain ⟨m, hm⟩ : ∃ m, m = r.length := ⟨_, rfl⟩
      rw [← hm] at c0 hmm
      unfold maxLen at hmm
      have HM := Lib.hid hm
      have HRK := Lib.hid hr
      have HRM := Lib.hid hrm
      clear hkl hc hm hr hrm
      by_cases h0 : m = 0
      · have hE : joinF rows = 41 := by
          unfold joinF
          rw [if_pos]
          rw [List.any_eq_true]
          refine ⟨r, HRM.out, ?_⟩
          rw [List.isEmpty_iff]
          exact List.eq_nil_of_length_eq_zero (by rw [← show m = _ from HM.out]; exact h0)
        have HE := Lib.hid hE
        subst h0
        clear hE
        go_wp2
        first | go_ret2 | skip
        exact ⟨Below.refl _ _, by unfold joinT; rw [HE.out]; rfl⟩
      · have d0 : ((m : Int) == 0) = false := by simp; omega
        go_wp2
        go_roundw
        case rel => exact ⟨k + 1, by omega, by go_num, by first | rfl | trivial, fun r' hr' => by
          rw [List.take_add_one, HRK.out] at hr'
          rcases List.mem_append.1 hr' with hr' | hr'
          · exact HNE.out r' hr'
          · simp only [Option.toList_some, List.mem_singleton] at hr'
            subst hr'
            intro e
            have := HM.out
            rw [e] at this
            exact h0 this⟩
        case measure => simp [intOf]; omega
    · have hall : rows.any (·.isEmpty) = false := by
        rw [List.any_eq_false]
        intro r hr
        have hkk : k = rows.length := by have := HN.out; omega
        have := HNE.out r (by rw [hkk, List.take_of_length_le (Nat.le_refl _)]; exact hr)
        simpa using this
      have HALL := Lib.hid hall
      clear hall HNE
      have HJF : Hid (joinF rows = if 65536 < (joinL rows).length then 2 else 0) := by show _ = _; unfold joinF; rw [HALL.out]; rfl
      obtain ⟨w, rfl⟩ : ∃ x : World, x = wr := ⟨_, rfl⟩
      go_wp2
      go_loopw [6, 23] (fun ov iv wr => ∃ (k : Nat) (q : Option Addr) (m d : Nat), k ≤ n ∧ iv = .int .i64 k ∧ ov = .slice q m d ∧ m = (joinL (rows.take k)).length ∧ m ≤ 65536 ∧ Out wr w.heap.size (.slice q m d) (joinL (rows.take k)) ∧ Below w.heap.size w wr) (fun _ iv _ => n - (intOf iv).toNat)
      case atStart => exact ⟨0, none, 0, 0, Nat.zero_le _, rfl, rfl, rfl, by omega, Out.nil _ _, Below.refl _ _⟩
      case round =>
        obtain ⟨k, q, m, d, hk, rfl, rfl, hm, hm6, ho, hb⟩ := hrel
        have HO := Lib.hid ho
        have HB := Lib.hid hb
        have HM := Lib.hid hm
        clear ho hb hm
        by_cases hkn : k < n
        · have hkl : k < rows.length := by rw [← HN.out]; exact hkn
          obtain ⟨r, b, o, q2, d2, hr, rfl, c0w, hc⟩ := HR.out.nth hkl
          have c0 := (HB.out.cell (p := ⟨b, o + k, none⟩) (lt_of_cell c0w)).trans c0w
          clear c0w
          have hrm : r ∈ rows := List.mem_of_getElem? hr
          have hsr := HSZ.out r hrm
          have HSR := Lib.hid hsr.2
          have hmm := hsr.1
          obtain ⟨rn, hrn⟩ : ∃ rn, rn = r.length := ⟨_, rfl⟩
          rw [← hrn] at c0 hmm
          unfold maxLen at hmm
          have HRN := Lib.hid hrn
          have HC := Lib.hid hc
          have HRNE : Hid (r ≠ []) := by
            show _
            intro e
            subst e
            have := HALL.out
            rw [List.any_eq_false] at this
            exact absurd (this [] hrm) (by simp)
          have HJT : Hid (joinL (rows.take (k + 1)) = joinL (rows.take k) ++ rowW r) := by show _ = _; rw [joinL_take hkl, (List.getElem?_eq_some_iff.1 hr).2]
          have HJLE : Hid ((joinL (rows.take k)).length + (rowW r).length ≤ (joinL rows).length) := by have := joinL_le hkl; rw [(List.getElem?_eq_some_iff.1 hr).2] at this; exact this
          obtain ⟨J, hJ⟩ : ∃ J, J = joinL (rows.take k) := ⟨_, rfl⟩
          rw [← hJ] at HO HM HJT HJLE
          clear hkl hr hrm hsr hrn hc hJ
          obtain ⟨wo, rfl⟩ : ∃ x : World, x = wr := ⟨_, rfl⟩
          go_wp2
          go_loopw [6, 29] (fun ov iv wr => ∃ (j : Nat) (q : Option Addr) (m d : Nat), j ≤ rn ∧ iv = .int .i64 j ∧ ov = .slice q m d ∧ m = (J ++ cellsW (r.take j)).length ∧ m ≤ 65536 ∧ (0 < j → m + 2 ≤ 65536) ∧ Out wr w.heap.size (.slice q m d) (J ++ cellsW (r.take j)) ∧ Below w.heap.size w wr) (fun _ iv _ => rn - (intOf iv).toNat)
          case atStart => exact ⟨0, q, m, d, Nat.zero_le _, rfl, rfl, by rw [HM.out]; simp [cellsW], hm6, fun h => absurd h (Nat.lt_irrefl _), by simpa [cellsW] using HO.out, HB.out⟩
          case round =>
            obtain ⟨j, q3, m3, d3, hj, rfl, rfl, hm3, hm36, hj0, ho3, hb3⟩ := hrel
            have HO3 := Lib.hid ho3
            have HB3 := Lib.hid hb3
            have HM3 := Lib.hid hm3
            clear ho3 hb3 hm3
            by_cases hjr : j < rn
            · have hjl : j < r.length := by rw [← HRN.out]; exact hjr
              obtain ⟨cj, b', o', hcj, rfl, e0w⟩ := HC.out.nth hjl
              have HLT : Hid (b' < w.heap.size) := lt_of_cell e0w
              have e0 := (HB3.out.cell (p := ⟨b', o' + j, none⟩) (lt_of_cell e0w)).trans e0w
              have hcm : cj ∈ r := List.mem_of_getElem? hcj
              have hcs := HSR.out cj hcm
              have HCT : Hid (cellsW (r.take (j + 1)) = if j = 0 then cellW cj else cellsW (r.take j) ++ 44 :: cellW cj) := by show _ = _; rw [cellsW_take hjl, (List.getElem?_eq_some_iff.1 hcj).2]
              have HCLE : Hid ((cellsW (r.take (j + 1))).length + 2 ≤ (rowW r).length) := by have := cellsW_le (C := r) (k := j + 1); show _ ≤ _; unfold rowW; rw [List.length_append]; simp; omega
              obtain ⟨lj, hlj⟩ : ∃ lj, lj = J ++ cellsW (r.take j) := ⟨_, rfl⟩
              rw [← hlj] at HO3 HM3
              have HLJ := Lib.hid hlj
              have hbs : (⟨cj.toArray⟩ : ByteArray).size = cj.length := by simp [ByteArray.size]
              have hwl := cellW_len cj
              have HWL := Lib.hid hwl
              have HCS := Lib.hid hcs
              have hAC : Hid (∀ wx q m d l, Below w.heap.size w wx → m = l.length → l.length ≤ 65537 → Out wx w.heap.size (.slice q m d) l → Calls Tryz.prog 47 #[.slice q m d, .string ⟨cj.toArray⟩] wx (Wrote w.heap.size wx (.slice q m d) (l ++ cellW cj))) := fun wx q m d l h1 h2 h3 h4 => by
                subst h2
                exact appendCell_any ⟨cj.toArray⟩ w.heap.size _ l wx h1.size HMM.out.lt (HMM.out.below h1 HMM.out.lt) h4 (by omega) (by rw [hbs]; exact hcs)
              clear e0w hjl hcj hcm hcs hlj hbs hwl
              have hm3l : m3 ≤ 65536 := hm36
              by_cases hjp : 0 < j
              · have hma : lj.length + sC.size ≤ maxLen := by have := HM3.out; have e1 : sC.size = 1 := rfl; unfold maxLen; omega
                have hmb : lj.length + sC.size ≤ 140737488355328 := by have := HM3.out; have e1 : sC.size = 1 := rfl; omega
                have HOV : Hid (Out wr w.heap.size (.slice q3 m3 d3) lj) := HO3.out
                have HBS : Hid (w.heap.size ≤ wr.heap.size) := HB3.out.size
                have HM31 : Hid (m3 = lj.length) := HM3.out
                go_wp2_with (at_builtin; refine wpList_str rfl _ _ rfl w.heap.size i5 hi5 b0 b1 b2 (.slice q3 m3 d3) lj rfl HOV.out sC rfl hma hmb HBS.out ?_)
                intro p4 k4 w4 hO4 hW4
                have HB4 : Hid (Below w.heap.size w w4) := HB3.out.trans (hW4.below HO3.out HB3.out.size)
                have e1 := (Below.cell (hW4.below HO3.out HB3.out.size) (p := ⟨b', o' + j, none⟩) (HLT.out)).trans e0
                have HO4 : Hid (Out w4 w.heap.size (.slice p4 (lj.length + 1) k4) (lj ++ [44])) := hO4
                have HM4 : Hid (lj.length + 1 = (lj ++ [(44 : UInt8)]).length) := by show _ = _; simp
                clear hO4 hW4 hma hmb e0
                go_wp2_with fail
                refine (hAC.out _ _ _ _ (lj ++ [44]) HB4.out HM4.out (by have := HM3.out; rw [List.length_append]; simp; omega) HO4.out).mono ?_
                rintro e w5 ⟨q5, d5, rfl, ho5, hw5⟩
                have HB5 : Hid (Below w.heap.size w w5) := HB4.out.trans (hw5.below HO4.out HB4.out.size)
                have HO5 := Lib.hid ho5
                have HCT2 : Hid (J ++ cellsW (r.take (j + 1)) = lj ++ [44] ++ cellW cj) := by show _ = _; rw [HCT.out, HLJ.out]; rw [if_neg (by omega)]; simp
                obtain ⟨l5, hl5⟩ : ∃ l5, l5 = lj ++ [44] ++ cellW cj := ⟨_, rfl⟩
                rw [← hl5] at HO5 HCT2 ⊢
                have hl5b : l5.length ≤ 400000000 := by have := HM3.out; have := HWL.out; have := HCS.out; rw [hl5]; simp; omega
                clear ho5 hw5 hl5
                by_cases hbig : 65536 < l5.length + 2
                · have hF : joinF rows = 2 := by
                    rw [HJF.out, if_pos]
                    have h1 := HJLE.out
                    have h2 := HCLE.out
                    have h3 := congrArg List.length HCT2.out
                    rw [List.length_append] at h3
                    omega
                  have HF := Lib.hid hF
                  have dbig : decide ((65536 : Int) < (l5.length : Int) + 2) = true := by simp; omega
                  obtain ⟨n5, hn5⟩ : ∃ n5, n5 = l5.length := ⟨_, rfl⟩
                  rw [← hn5] at dbig hl5b ⊢
                  clear hF hbig hn5
                  go_wp2
                  first | go_ret2 | skip
                  exact ⟨HB5.out, by unfold joinT; rw [HF.out]; rfl⟩
                · have dbig : decide ((65536 : Int) < (l5.length : Int) + 2) = false := by simp; omega
                  obtain ⟨n5, hn5⟩ : ∃ n5, n5 = l5.length := ⟨_, rfl⟩
                  have HN5 := Lib.hid hn5
                  rw [← hn5] at dbig hl5b hbig ⊢
                  clear hn5
                  go_wp2
                  go_roundw
                  case rel => exact ⟨j + 1, q5, n5, d5, by omega, by go_num, rfl, by rw [HCT2.out, ← show n5 = _ from HN5.out], by omega, fun _ => by omega, by rw [HCT2.out, show n5 = _ from HN5.out]; exact HO5.out, HB5.out⟩
                  case measure => simp [intOf]; omega
              · go_wp2_with fail
                refine (hAC.out _ _ _ _ lj HB3.out HM3.out (by have := HM3.out; omega) HO3.out).mono ?_
                rintro e w5 ⟨q5, d5, rfl, ho5, hw5⟩
                have HB5 : Hid (Below w.heap.size w w5) := HB3.out.trans (hw5.below HO3.out HB3.out.size)
                have HO5 := Lib.hid ho5
                have HCT2 : Hid (J ++ cellsW (r.take (j + 1)) = lj ++ cellW cj) := by show _ = _; rw [HCT.out, HLJ.out]; rw [if_pos (by omega), show r.take j = [] by (rw [show j = 0 by omega]; rfl)]; simp [cellsW]
                obtain ⟨l5, hl5⟩ : ∃ l5, l5 = lj ++ cellW cj := ⟨_, rfl⟩
                rw [← hl5] at HO5 HCT2 ⊢
                have hl5b : l5.length ≤ 400000000 := by have := HM3.out; have := HWL.out; have := HCS.out; rw [hl5]; simp; omega
                clear ho5 hw5 hl5
                by_cases hbig : 65536 < l5.length + 2
                · have hF : joinF rows = 2 := by
                    rw [HJF.out, if_pos]
                    have h1 := HJLE.out
                    have h2 := HCLE.out
                    have h3 := congrArg List.length HCT2.out
                    rw [List.length_append] at h3
                    omega
                  have HF := Lib.hid hF
                  have dbig : decide ((65536 : Int) < (l5.length : Int) + 2) = true := by simp; omega
                  obtain ⟨n5, hn5⟩ : ∃ n5, n5 = l5.length := ⟨_, rfl⟩
                  rw [← hn5] at dbig hl5b ⊢
                  clear hF hbig hn5
                  go_wp2
                  first | go_ret2 | skip
                  exact ⟨HB5.out, by unfold joinT; rw [HF.out]; rfl⟩
                · have dbig : decide ((65536 : Int) < (l5.length : Int) + 2) = false := by simp; omega
                  obtain ⟨n5, hn5⟩ : ∃ n5, n5 = l5.length := ⟨_, rfl⟩
                  have HN5 := Lib.hid hn5
                  rw [← hn5] at dbig hl5b hbig ⊢
                  clear hn5
                  go_wp2
                  go_roundw
                  case rel => exact ⟨j + 1, q5, n5, d5, by omega, by go_num, rfl, by rw [HCT2.out, ← show n5 = _ from HN5.out], by omega, fun _ => by omega, by rw [HCT2.out, show n5 = _ from HN5.out]; exact HO5.out, HB5.out⟩
                  case measure => simp [intOf]; omega
            · have hjj : j = r.length := by have := HRN.out; omega
              have hfull : r.take j = r := by rw [hjj, List.take_of_length_le (Nat.le_refl _)]
              have hj1 : 0 < j := by
                have := List.length_pos_iff.2 HRNE.out
                omega
              have hm2 := hj0 hj1
              rw [hfull] at HO3 HM3
              have HOV : Hid (Out wr w.heap.size (.slice q3 m3 d3) (J ++ cellsW r)) := HO3.out
              have hma : (J ++ cellsW r).length + sEnd.size ≤ maxLen := by have := HM3.out; have e1 : sEnd.size = 2 := rfl; unfold maxLen; omega
              have hmb : (J ++ cellsW r).length + sEnd.size ≤ 140737488355328 := by have := HM3.out; have e1 : sEnd.size = 2 := rfl; omega
              have HBS : Hid (w.heap.size ≤ wr.heap.size) := HB3.out.size
              have HJT2 : Hid (joinL (rows.take (k + 1)) = J ++ cellsW r ++ [13, 10]) := by show _ = _; rw [HJT.out]; unfold rowW; rw [List.append_assoc]
              obtain ⟨l4, hl4⟩ : ∃ l4, l4 = J ++ cellsW r := ⟨_, rfl⟩
              rw [← hl4] at HOV hma hmb HM3 HJT2
              clear hfull hjj hl4
              go_wp2_with (at_builtin; refine wpList_str rfl _ _ rfl w.heap.size i5 hi5 b0 b1 b2 (.slice q3 m3 d3) l4 rfl HOV.out sEnd rfl hma hmb HBS.out ?_)
              intro p4 k4 w4 hO4 hW4
              have HB4 : Hid (Below w.heap.size w w4) := HB3.out.trans (hW4.below HOV.out HBS.out)
              have HO4 : Hid (Out w4 w.heap.size (.slice p4 (l4.length + 2) k4) (l4 ++ [13, 10])) := hO4
              clear hO4 hW4 hma hmb
              go_wp2
              go_roundw
              case rel => exact ⟨k + 1, p4, l4.length + 2, k4, by omega, by go_num, rfl, by rw [HJT2.out]; simp, by have := HM3.out; omega, by rw [HJT2.out]; exact HO4.out, HB4.out⟩
              case measure => simp [intOf]; omega
        · have hkk : k = rows.length := by have := HN.out; omega
          have hfull : rows.take k = rows := by rw [hkk, List.take_of_length_le (Nat.le_refl _)]
          rw [hfull] at HO HM
          have HF0 : Hid (joinF rows = 0) := by show _ = _; rw [HJF.out, if_neg (by have := HM.out; omega)]
          obtain rfl := HM.out
          have hcv := run_str HO.out.inn.1 d
          have HLE := Lib.hid hm6
          obtain ⟨J, hJ⟩ : ∃ J, J = joinL rows := ⟨_, rfl⟩
          rw [← hJ] at hcv ⊢
          have HJ := Lib.hid hJ
          clear hfull hkk hJ
          go_wp2
          first | go_ret2 | skip
          exact ⟨HB.out, by unfold joinT; rw [HF0.out, if_pos rfl, ← show J = _ from HJ.out]; rfl⟩
end Go.Proofs.YtkficmbkoinjjaaGreatDoor
