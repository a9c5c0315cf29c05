/- Cells as they are written: plain facts; what replaces each quote by two. -/
import Derived.Lib.Replace
import Derived.Lib.SplitLaws
import Derived.Lib.IndexBytes
import Derived.Lib.IndexLaws
import Derived.Lib.ReplaceLaws
import Derived.Test.YtkficmbkoinjjaaGreatDoorP1
import Derived.Test.YtkficmbkoinjjaaGreatDoorS1
import Derived.Test.YtkficmbkoinjjaaGreatDoorSh2
namespace Go.Proofs.YtkficmbkoinjjaaGreatDoor
open Go
set_option maxHeartbeats 1000000
set_option linter.unusedVariables false
set_option linter.unusedSimpArgs false
/-- each quote twice -/
def esc : Cell → List UInt8
  | [] => []
  | b :: t => if b = 34 then 34 :: 34 :: esc t else b :: esc t
theorem esc_len : ∀ l, (esc l).length = l.length + l.count 34
  | [] => rfl
  | b :: t => by
    have ih := esc_len t
    unfold esc
    by_cases h : b = 34
    · subst h; rw [if_pos rfl]; simp [ih]; omega
    · rw [if_neg h, List.count_cons_of_ne h]; simp [ih]; omega
theorem replace_esc : ∀ (l : List UInt8) (k : Nat), k = l.count 34 → Lib.replaceK [34] [34, 34] k l = esc l
  | [], k, h => by simp at h; subst h; rfl
  | b :: t, k, h => by
    by_cases hb : b = 34
    · subst hb
      rw [List.count_cons_self] at h
      subst h
      have hi : Lib.index (34 :: t) [34] = (0 : Nat) := by simp [Lib.index, List.isPrefixOf]
      rw [Lib.replaceK_hit _ _ _ _ 0 hi]
      have ih := replace_esc t (t.count 34) rfl
      simp [esc, ih]
    · rw [List.count_cons_of_ne hb] at h
      have ih := replace_esc t k h
      have he : esc (b :: t) = b :: esc t := by simp [esc, hb]
      rw [he, ← ih]
      cases k with
      | zero => rfl
      | succ k =>
        have hpos : 0 < Lib.count t [34] := by rw [Lib.count_one]; omega
        obtain ⟨i, hi⟩ := Lib.index_of_count hpos
        have hi2 : Lib.index (b :: t) [34] = ((i + 1 : Nat) : Int) := by
          have hb2 : ¬ ((34 : UInt8) = b) := fun e => hb e.symm
          simp only [Lib.index, List.isPrefixOf]
          simp [hb2, hi]
        rw [Lib.replaceK_hit _ _ _ _ _ hi, Lib.replaceK_hit _ _ _ _ _ hi2]
        simp [List.take_succ_cons]
theorem replaceAll_esc (l : List UInt8) : Lib.replaceAll l [34] [34, 34] = esc l := by
  unfold Lib.replaceAll Lib.replace
  rw [if_neg (by decide)]
  refine replace_esc l _ ?_
  unfold Lib.replaceNum
  rw [if_pos (by left; decide), Lib.count_one]
/-- a cell as it is written -/
def cellW (c : Cell) : List UInt8 := if c.any odd then 34 :: (esc c ++ [34]) else c
theorem cellW_len (c : Cell) : (cellW c).length ≤ 2 * c.length + 2 := by
  unfold cellW
  split
  · have := esc_len c
    have := List.count_le_length (a := (34 : UInt8)) (l := c)
    simp
    omega
  · omega
theorem any_index (c : Cell) : decide (0 ≤ Lib.indexAny c [44, 34, 13, 10]) = c.any odd := by
  induction c with
  | nil => rfl
  | cons b t ih =>
    rw [List.any_cons]
    unfold Lib.indexAny
    by_cases hb : ([44, 34, 13, 10] : List UInt8).contains b = true
    · rw [if_pos hb]
      have : odd b = true := hb
      rw [this]
      rfl
    · rw [if_neg hb]
      have h0 : odd b = false := by unfold odd; simpa using hb
      rw [h0, Bool.false_or, ← ih]
      have h3 := Lib.indexAny_ge [44, 34, 13, 10] t
      by_cases hn : Lib.indexAny t [44, 34, 13, 10] = -1
      · rw [if_pos (by simp [hn]), hn]
      · rw [if_neg (by simp [hn])]
        congr 1
        apply propext
        constructor <;> intro _ <;> omega
end Go.Proofs.YtkficmbkoinjjaaGreatDoor
/- strings.ContainsAny; package csv's appendCell. -/
namespace Go.Proofs.YtkficmbkoinjjaaGreatDoor
open Go Go.RowKit
set_option maxHeartbeats 4000000
set_option linter.unusedVariables false
set_option linter.unusedSimpArgs false
/-- the library's bound of a search is some number -/
def Mx (w : World) : Prop := ∃ m, w.cell? ⟨0, 0, none⟩ = some (.int .i64 m)
theorem Mx.lt {w : World} (h : Mx w) : 0 < w.heap.size := by obtain ⟨m, hm⟩ := h; exact lt_of_cell hm
theorem Mx.below {w w' : World} {B : Nat} (h : Mx w) (hb : Below B w w') (hB : 0 < B) : Mx w' := by
  obtain ⟨m, hm⟩ := h
  exact ⟨m, (hb.cell (p := ⟨0, 0, none⟩) hB).trans hm⟩
theorem Mx.grown {w w' : World} {row : Option Nat} (h : Mx w) (hg : w.grownBy w' row) (hr : row ≠ some 0) : Mx w' := by
  obtain ⟨m, hm⟩ := h
  exact ⟨m, (World.cell?_of_block (a := ⟨0, 0, none⟩) (hg.block 0 (lt_of_cell hm) (fun e => hr e.symm))).trans hm⟩
set_option maxRecDepth 100000 in
theorem contains_any (s : ByteArray) (w : World) (hs : s.size < 4294967281) : Calls Tryz.prog 65 #[.string s, .string NP] w fun e w' => e = .returned (.bool (s.data.toList.any odd)) ∧ Below w.heap.size w w' := by
  have hIX := indexAny_any s w hs
  have hany := any_index s.data.toList
  have HA : Hid (decide (0 ≤ Lib.indexAny s.data.toList NP.data.toList) = s.data.toList.any odd) := hany
  obtain ⟨z, hz⟩ : ∃ z, z = Lib.indexAny s.data.toList NP.data.toList := ⟨_, rfl⟩
  rw [← hz] at hIX HA
  clear hz hany hs
  go_enter Tryz.func65, Tryz.ntmps65
  go_wp2_with fail
  refine hIX.mono ?_
  rintro e w' ⟨rfl, hb⟩
  have HB := Lib.hid hb
  clear hIX hb
  go_wp2
  go_ret
  exact ⟨by rw [← HA.out]; rfl, HB.out⟩
set_option maxRecDepth 100000 in
theorem appendCell_any (c : ByteArray) (B : Nat) (v : Value) (l : List UInt8) (w : World) (hB : B ≤ w.heap.size) (h0 : 0 < B) (hM : Mx w) (hown : Out w B v l) (hl : l.length ≤ 100000000) (hc : c.size ≤ 100000000) :
    Calls Tryz.prog 47 #[v, .string c] w (Wrote B w v (l ++ cellW c.data.toList)) := by
  obtain ⟨i5, hi5, b0, b1, b2⟩ := info_parts infoByte
  have HO := Lib.hid hown
  have hCA := contains_any c w (by omega)
  obtain ⟨an, han⟩ : ∃ an, an = c.data.toList.any odd := ⟨_, rfl⟩
  rw [← han] at hCA
  have HAN := Lib.hid han
  have hcl : c.toList = c.data.toList := ByteArray.toList_eq c
  have hcs : c.data.toList.length = c.size := (Lib.size_eq c).symm
  cases an
  · have HW : Hid (cellW c.data.toList = c.data.toList) := by show _ = _; unfold cellW; rw [← show _ = _ from HAN.out]; rfl
    have hm1 : l.length + c.size ≤ maxLen := by unfold maxLen; omega
    have hm2 : l.length + c.size ≤ 140737488355328 := by omega
    have HCL := Lib.hid hcl
    have HCS := Lib.hid hcs
    have HBB := Lib.hid hB
    clear hown han hcl hcs
    go_enter Tryz.func47, Tryz.ntmps47
    go_wp2_with fail
    refine hCA.mono ?_
    rintro e w1 ⟨rfl, hb1⟩
    have HO1 : Hid (Out w1 B v l) := own_kept_any HO.out hb1
    have HB1 : Hid (B ≤ w1.heap.size) := Nat.le_trans HBB.out hb1.size
    have HW1 : Hid (Wr w w1 v v) := ⟨grown_of_below hb1 _, .inl rfl⟩
    clear hCA hb1
    go_wp2_with (at_builtin; refine wpList_str rfl _ _ rfl B i5 hi5 b0 b1 b2 v l rfl HO1.out c rfl hm1 hm2 HB1.out ?_)
    intro p2 k2 w2 hO2 hW2
    have HO2 := Lib.hid hO2
    have HW2 := Lib.hid (HW1.out.trans hW2)
    have HLN : Hid ((l ++ cellW c.data.toList).length = l.length + c.size) := by show _ = _; rw [HW.out, List.length_append, HCS.out]
    clear hO2 hW2
    go_wp2
    go_ret
    exact ⟨p2, k2, by rw [HLN.out]; rfl, by rw [HLN.out, HW.out, ← HCL.out]; exact HO2.out, by rw [HLN.out]; exact HW2.out⟩
  · have HW : Hid (cellW c.data.toList = [34] ++ esc c.data.toList ++ [34]) := by show _ = _; unfold cellW; rw [← show _ = _ from HAN.out]; rfl
    have hel : (esc c.data.toList).length ≤ 2 * c.size := by
      rw [esc_len, hcs]
      have := List.count_le_length (a := (34 : UInt8)) (l := c.data.toList)
      omega
    obtain ⟨E, hE⟩ : ∃ E, E = esc c.data.toList := ⟨_, rfl⟩
    have hcb := Lib.countB_mul_le sQ (by decide) c.size c (Nat.le_refl _)
    have HRP : Hid (∀ wx, Mx wx → Calls Tryz.prog 66 #[.string c, .string sQ, .string ⟨#[34, 34]⟩] wx fun e w' => e = .returned (.string ⟨E.toArray⟩) ∧ Below wx.heap.size wx w') := fun wx ⟨m, hm⟩ => by
      have := Tryz.strings_ReplaceAll c sQ ⟨#[34, 34]⟩ m wx (by omega) hm (by decide) (by
        have e1 : sQ.size = 1 := rfl
        have e2 : (⟨#[34, 34]⟩ : ByteArray).size = 2 := rfl
        rw [e1] at hcb
        rw [e2]
        omega)
      rw [show Lib.replaceAll c.data.toList sQ.data.toList (⟨#[34, 34]⟩ : ByteArray).data.toList = E by rw [hE]; exact replaceAll_esc _] at this
      exact this
    rw [← hE] at HW hel
    have HEL := Lib.hid hel
    have hEs : (⟨E.toArray⟩ : ByteArray).size = E.length := by simp [ByteArray.size]
    have hEt : (⟨E.toArray⟩ : ByteArray).toList = E := by rw [ByteArray.toList_eq]
    have HES := Lib.hid hEs
    have HET := Lib.hid hEt
    have HBB := Lib.hid hB
    have HMM := Lib.hid hM
    have H00 := Lib.hid h0
    have hq1 : sQ.size = 1 := rfl
    have hm1 : l.length + sQ.size ≤ maxLen := by unfold maxLen; omega
    have hm2 : l.length + sQ.size ≤ 140737488355328 := by omega
    clear hown han hcl hcs hcb hE hel hq1 hEs hEt hM hB
    go_enter Tryz.func47, Tryz.ntmps47
    go_wp2_with fail
    refine hCA.mono ?_
    rintro e w1 ⟨rfl, hb1⟩
    have HO1 : Hid (Out w1 B v l) := own_kept_any HO.out hb1
    have HB1 : Hid (B ≤ w1.heap.size) := Nat.le_trans HBB.out hb1.size
    have HW1 : Hid (Wr w w1 v v) := ⟨grown_of_below hb1 _, .inl rfl⟩
    have HM1 : Hid (Mx w1) := HMM.out.below hb1 HMM.out.lt
    clear hCA hb1
    go_wp2_with (at_builtin; refine wpList_str rfl _ _ rfl B i5 hi5 b0 b1 b2 v l rfl HO1.out sQ rfl hm1 hm2 HB1.out ?_)
    intro p2 k2 w2 hO2 hW2
    have HO2 : Hid (Out w2 B (.slice p2 (l.length + 1) k2) (l ++ [34])) := hO2
    have HM2 : Hid (Mx w2) := HM1.out.grown hW2.g (fun e => by have := (World.ownsRow.lt HO1.out 0 e).1; have := H00.out; omega)
    have HW2 : Hid (Wr w w2 v (.slice p2 (l.length + 1) k2)) := HW1.out.trans hW2
    have HB2 : Hid (B ≤ w2.heap.size) := Nat.le_trans HB1.out hW2.g.size
    clear hO2 hW2 hm1 hm2
    go_wp2_with fail
    refine (HRP.out w2 HM2.out).mono ?_
    rintro e w3 ⟨rfl, hb3⟩
    have HO3 : Hid (Out w3 B (.slice p2 (l.length + 1) k2) (l ++ [34])) := own_kept_any HO2.out hb3
    have HB3 : Hid (B ≤ w3.heap.size) := Nat.le_trans HB2.out hb3.size
    have HW3 : Hid (Wr w w3 v (.slice p2 (l.length + 1) k2)) := HW2.out.trans ⟨grown_of_below hb3 _, .inl rfl⟩
    have hm1 : (l ++ [(34 : UInt8)]).length + (⟨E.toArray⟩ : ByteArray).size ≤ maxLen := by have := HEL.out; rw [HES.out, List.length_append]; unfold maxLen; simp; omega
    have hm2 : (l ++ [(34 : UInt8)]).length + (⟨E.toArray⟩ : ByteArray).size ≤ 140737488355328 := by have := HEL.out; rw [HES.out, List.length_append]; simp; omega
    clear hb3
    go_wp2_with (at_builtin; refine wpList_str rfl _ _ rfl B i5 hi5 b0 b1 b2 (.slice p2 (l.length + 1) k2) (l ++ [34]) rfl HO3.out ⟨E.toArray⟩ rfl hm1 hm2 HB3.out ?_)
    intro p4 k4 w4 hO4 hW4
    obtain ⟨L4, hL4⟩ : ∃ L4, L4 = l ++ 34 :: E := ⟨_, rfl⟩
    have hln : l.length + 1 + E.length = L4.length := by rw [hL4]; simp; omega
    rw [← hL4, hln] at hO4
    rw [hln] at hW4 ⊢
    have HO4 : Hid (Out w4 B (.slice p4 L4.length k4) L4) := hO4
    have HW4 : Hid (Wr w w4 v (.slice p4 L4.length k4)) := HW3.out.trans hW4
    have HB4 : Hid (B ≤ w4.heap.size) := Nat.le_trans HB3.out hW4.g.size
    have hl4 : L4.length ≤ 400000000 := by have := HEL.out; omega
    have HL4 := Lib.hid hL4
    clear hO4 hW4 hm1 hm2 hln
    have hm1 : L4.length + sQ.size ≤ maxLen := by have e1 : sQ.size = 1 := rfl; unfold maxLen; omega
    have hm2 : L4.length + sQ.size ≤ 140737488355328 := by have e1 : sQ.size = 1 := rfl; omega
    clear hL4
    go_wp2_with (at_builtin; refine wpList_str rfl _ _ rfl B i5 hi5 b0 b1 b2 (.slice p4 L4.length k4) L4 rfl HO4.out sQ rfl hm1 hm2 HB4.out ?_)
    intro p5 k5 w5 hO5 hW5
    have HO5 : Hid (Out w5 B (.slice p5 (L4.length + 1) k5) (L4 ++ [34])) := hO5
    have HW5 : Hid (Wr w w5 v (.slice p5 (L4.length + 1) k5)) := HW4.out.trans hW5
    have HEQ : Hid (l ++ cellW c.data.toList = L4 ++ [34]) := by show _ = _; rw [HW.out, HL4.out]; simp [List.append_assoc]
    have HLN : Hid ((l ++ cellW c.data.toList).length = L4.length + 1) := by show _ = _; rw [HEQ.out]; simp
    clear hO5 hW5
    go_wp2
    go_ret
    exact ⟨p5, k5, by rw [HLN.out]; rfl, by rw [HLN.out, HEQ.out]; exact HO5.out, by rw [HLN.out]; exact HW5.out⟩
end Go.Proofs.YtkficmbkoinjjaaGreatDoor
