/- The laws' own begun and same. -/
import Derived.Test.YtkficmbkoinjjaaGreatDoorJ2
namespace Go.Proofs.YtkficmbkoinjjaaGreatDoor
open Go Go.RowKit
set_option maxHeartbeats 4000000
set_option linter.unusedVariables false
set_option linter.unusedSimpArgs false
theorem OutS.cellsIn {w : World} {B : Nat} {p : Option Addr} {n c : Nat} {C : List Cell} (h : OutS w B (.slice p n c) C) : CellsIn w p C ∧ n = C.length := by
  rcases h.2 with ⟨e, e0⟩ | ⟨g, cap, cur, e, _⟩
  · simp only [Value.slice.injEq] at e
    exact ⟨fun j hj => absurd hj (by omega), by omega⟩
  · simp only [Value.slice.injEq] at e
    obtain ⟨rfl, rfl, rfl⟩ := e
    refine ⟨fun j hj => ⟨g, 0, rfl, ?_⟩, rfl⟩
    have := World.ownsRow.cells (g := g) h rfl j (.string ⟨C[j].toArray⟩) (by unfold strs; rw [List.getElem?_map, List.getElem?_eq_getElem hj]; rfl)
    rw [Addr.add_lit] at this
    exact this
theorem Rows.rowsIn {w : World} {B : Nat} {p : Option Addr} {n c : Nat} {rs : List (List Cell × Value)} (h : Rows w B (.slice p n c) rs) : RowsIn w p (rs.map (·.1)) := by
  intro i hi
  rw [List.length_map] at hi
  rcases h.own.2 with ⟨e, e0⟩ | ⟨g, cap, cur, e, _⟩
  · omega
  · simp only [Value.slice.injEq] at e
    obtain ⟨rfl, rfl, rfl⟩ := e
    have hc := World.ownsRow.cells (g := g) h.own rfl i rs[i].2 (by rw [List.getElem?_map, List.getElem?_eq_getElem hi]; rfl)
    have ho := h.each _ (List.getElem_mem hi)
    obtain ⟨q, d, e⟩ := own_slice ho
    rw [Addr.add_lit, e] at hc
    rw [e] at ho
    simp only [List.getElem_map]
    exact ⟨g, 0, q, d, rfl, hc, ho.cellsIn.1⟩
abbrev tB : ByteArray := ⟨#[97, 44, 34, 98, 44, 99, 34, 13, 10]⟩
def tR : List (List Cell) := [[[97], [98, 44, 99]]]
theorem tick_split : splitL tB.data.toList = .ok tR := by
  simp [splitL, run, tR]
theorem tick_join : joinF tR = 0 ∧ joinT tR = tB := by
  have h : joinL tR = [97, 44, 34, 98, 44, 99, 34, 13, 10] := by decide
  have hF : joinF tR = 0 := by unfold joinF; rw [if_neg (by decide), h]; decide
  exact ⟨hF, by unfold joinT; rw [if_pos hF, h]⟩
set_option maxRecDepth 100000 in
theorem begun_any (w : World) (hM : Mx w) : Calls Tryz.prog 6 #[] w fun e w' => e = .returned (.bool true) ∧ Below w.heap.size w w' := by
  have HM := Lib.hid hM
  have hSP := split_any tB w
  clear hM
  go_enter Tryz.func6, Tryz.ntmps6
  go_wp2_with fail
  refine hSP.mono ?_
  rintro e w1 ⟨hb1, h1⟩
  rw [if_neg (by decide), tick_split] at h1
  obtain ⟨rs, q, d, hrs, rfl, hrows⟩ := h1
  have HIN : Hid (RowsIn w1 q tR) := by have := hrows.rowsIn; rw [hrs] at this; exact this
  have hlen : rs.length = 1 := by have := congrArg List.length hrs; simpa [tR] using this
  have HB1 := Lib.hid hb1
  rw [hlen]
  obtain ⟨b, o, q2, d2, rfl, c0, hci⟩ := HIN.out 0 (by decide)
  obtain ⟨b2, o2, rfl, e1⟩ := hci 1 (by decide)
  have HM1 : Hid (Mx w1) := HM.out.below hb1 HM.out.lt
  replace c0 : w1.cell? ⟨b, o, none⟩ = some (.slice (some ⟨b2, o2, none⟩) 2 d2) := c0
  replace e1 : w1.cell? ⟨b2, o2 + 1, none⟩ = some (.string ⟨#[98, 44, 99]⟩) := e1
  have hJ := join_any tR (some ⟨b, o, none⟩) d w1 HM1.out HIN.out (by decide) (by
    intro r hr
    simp [tR] at hr
    subst hr
    refine ⟨by simp [maxLen], fun c hc => ?_⟩
    simp at hc
    rcases hc with rfl | rfl <;> simp)
  clear hSP hb1 hrs hrows hlen hci
  go_wp2_with fail
  refine hJ.mono ?_
  rintro e w2 ⟨hb2, rfl⟩
  rw [tick_join.1, tick_join.2]
  have HB2 : Hid (Below w.heap.size w w2) := HB1.out.trans (hb2.mono HB1.out.size)
  clear hJ hb2 c0 e1
  go_wp2
  go_ret
  exact ⟨rfl, HB2.out⟩
theorem cell_str (c c' : Cell) : ((⟨c.toArray⟩ : ByteArray).toList == (⟨c'.toArray⟩ : ByteArray).toList) = decide (c = c') := by
  rw [ByteArray.toList_eq, ByteArray.toList_eq]
  by_cases h : c = c' <;> simp [h]
set_option maxRecDepth 100000 in
theorem sameRow_any (C : List Cell) (p1 p2 : Option Addr) (c1 c2 : Nat) (w : World) (h1 : CellsIn w p1 C) (h2 : CellsIn w p2 C) (hm : C.length ≤ maxLen) :
    Calls Tryz.prog 15 #[.slice p1 C.length c1, .slice p2 C.length c2] w fun e w' => e = .returned (.bool true) ∧ Below w.heap.size w w' := by
  obtain ⟨n, hn⟩ : ∃ n, n = C.length := ⟨_, rfl⟩
  have HN := Lib.hid hn
  rw [← hn] at hm ⊢
  have H1 := Lib.hid h1
  have H2 := Lib.hid h2
  unfold maxLen at hm
  clear hn h1 h2
  go_enter Tryz.func15, Tryz.ntmps15
  go_wp2
  go_loopw [5] (fun iv wr => ∃ k : Nat, k ≤ n ∧ iv = .int .i64 k ∧ Below w.heap.size w wr) (fun iv _ => n - (intOf iv).toNat)
  case atStart => exact ⟨0, Nat.zero_le _, rfl, Below.refl _ _⟩
  case round =>
    obtain ⟨k, hk, rfl, hb⟩ := hrel
    have HB := Lib.hid hb
    clear hb
    by_cases hlt : k < n
    · have hkl : k < C.length := by rw [← HN.out]; exact hlt
      obtain ⟨x, b, o, hx, rfl, c0w⟩ := H1.out.nth hkl
      obtain ⟨y, b', o', hy, rfl, d0w⟩ := H2.out.nth hkl
      obtain rfl : x = y := Option.some.inj (hx.symm.trans hy)
      have c0 := (HB.out.cell (p := ⟨b, o + k, none⟩) (lt_of_cell c0w)).trans c0w
      have d0 := (HB.out.cell (p := ⟨b', o' + k, none⟩) (lt_of_cell d0w)).trans d0w
      clear hkl hx hy c0w d0w
      go_wp2
      go_region
      go_wp2
      go_roundw
      case rel => exact ⟨k + 1, by omega, by go_num, by repeat (first | exact HB.out | apply Below.drew)⟩
      case measure => simp [intOf]; omega
    · go_wp2
      go_ret
      exact ⟨rfl, HB.out⟩
theorem held_below {n : Nat} {a w : World} {A : Prop} (h : Below n a w ∧ A) : Below n a w := h.1
theorem held_on {a w w' : World} {A : Prop} (h : Below a.heap.size a w ∧ A) (hb : Below w.heap.size w w') : Below a.heap.size a w' := h.1.trans (hb.mono h.1.size)
set_option maxRecDepth 100000 in
theorem same_any (rows : List (List Cell)) (p1 p2 : Option Addr) (c1 c2 : Nat) (w : World) (h1 : RowsIn w p1 rows) (h2 : RowsIn w p2 rows) (hm : rows.length ≤ maxLen) (hr : ∀ r ∈ rows, r.length ≤ maxLen) :
    Calls Tryz.prog 9 #[.slice p1 rows.length c1, .slice p2 rows.length c2] w fun e w' => e = .returned (.bool true) ∧ Below w.heap.size w w' := by
  obtain ⟨n, hn⟩ : ∃ n, n = rows.length := ⟨_, rfl⟩
  have HN := Lib.hid hn
  rw [← hn] at hm ⊢
  have H1 := Lib.hid h1
  have H2 := Lib.hid h2
  have HRR := Lib.hid hr
  unfold maxLen at hm
  clear hn h1 h2 hr
  go_enter Tryz.func9, Tryz.ntmps9
  go_wp2
  go_loopw [5] (fun iv wr => ∃ k : Nat, k ≤ n ∧ iv = .int .i64 k ∧ Below w.heap.size w wr) (fun iv _ => n - (intOf iv).toNat)
  case atStart => exact ⟨0, Nat.zero_le _, rfl, Below.refl _ _⟩
  case round =>
    obtain ⟨k, hk, rfl, hb⟩ := hrel
    have HB := Lib.hid hb
    clear hb
    by_cases hlt : k < n
    · have hkl : k < rows.length := by rw [← HN.out]; exact hlt
      obtain ⟨x, b, o, q, d, hx, rfl, c0w, hc1⟩ := H1.out.nth hkl
      obtain ⟨y, b', o', q', d', hy, rfl, d0w, hc2⟩ := H2.out.nth hkl
      obtain rfl : x = y := Option.some.inj (hx.symm.trans hy)
      have c0 := (HB.out.cell (p := ⟨b, o + k, none⟩) (lt_of_cell c0w)).trans c0w
      have d0 := (HB.out.cell (p := ⟨b', o' + k, none⟩) (lt_of_cell d0w)).trans d0w
      have hl1 := lt_of_cell c0
      have hl2 := lt_of_cell d0
      have hxm := HRR.out x (List.mem_of_getElem? hx)
      have HCC : Hid (∀ wx, Below wr.heap.size wr wx → CellsIn wx q x ∧ CellsIn wx q' x) := fun wx hx => by
        have hall : Below w.heap.size w wx := HB.out.trans (hx.mono HB.out.size)
        exact ⟨hc1.below hall, hc2.below hall⟩
      have HSR : Hid (∀ wx, Below wr.heap.size wr wx → Calls Tryz.prog 15 #[.slice q x.length d, .slice q' x.length d'] wx fun e w' => e = .returned (.bool true) ∧ Below wx.heap.size wx w') := fun wx hx => sameRow_any x q q' d d' wx (HCC.out wx hx).1 (HCC.out wx hx).2 hxm
      obtain ⟨xn, hxn⟩ : ∃ xn, xn = x.length := ⟨_, rfl⟩
      rw [← hxn] at c0 d0 HSR
      have HS : Hid (∀ wx, Below wr.heap.size wr wx → Below wr.heap.size wr wx ∧ wx.cell? ⟨b, o + k, none⟩ = some (.slice q xn d) ∧ wx.cell? ⟨b', o' + k, none⟩ = some (.slice q' xn d')) := fun wx hx => ⟨hx, (hx.cell (p := ⟨b, o + k, none⟩) hl1).trans c0, (hx.cell (p := ⟨b', o' + k, none⟩) hl2).trans d0⟩
      clear hkl hx hy c0w d0w hc1 hc2 hxn hxm
      go_wp2
      go_region_held3 (fun wx => Below wr.heap.size wr wx ∧ wx.cell? ⟨b, o + k, none⟩ = some (.slice q xn d) ∧ wx.cell? ⟨b', o' + k, none⟩ = some (.slice q' xn d'))
        ((refine HS.out _ ?_; first | assumption | exact Below.refl _ _ | exact (Below.refl _ _).drew | exact held_below (by assumption)))
        (first | (go_at_call 15; refine (HSR.out _ (held_below (by assumption))).mono ?_; rintro e w2 ⟨rfl, hb2⟩; have hB2 : Below wr.heap.size wr w2 := held_on (by assumption) hb2))
      all_goals
        have HB2 : Hid (Below w.heap.size w w2) := HB.out.trans (hB2.mono HB.out.size)
        clear c0 d0
        go_wp2
        go_roundw
        case rel => exact ⟨k + 1, by omega, by go_num, HB2.out⟩
        case measure => simp [intOf]; omega
    · go_wp2
      go_ret
      exact ⟨rfl, HB.out⟩
end Go.Proofs.YtkficmbkoinjjaaGreatDoor
