/- The document's own answer: which kinds there are; a cell read as a value of a kind. -/
import Derived.Test.YtkficmbkoinjjaaGreatDoorE3
import Derived.Test.YtkficmbkoinjjaaGreatDoorRE7
namespace Go.Proofs.YtkficmbkoinjjaaGreatDoor
open Go Go.RowKit
open V
set_option maxHeartbeats 4000000
set_option linter.unusedVariables false
set_option linter.unusedSimpArgs false
theorem known_r (k : Int) (w : World) : Calls Tryz.prog 37 #[.int .i64 k] w fun e w' => e = .returned (.bool (decide (1 ≤ k) && decide (k ≤ 3))) ∧ w' = w := by
  by_cases h1 : 1 ≤ k
  · have d1 : decide (1 ≤ k) = true := by simpa using h1
    by_cases h2 : k ≤ 3
    · have d2 : decide (k ≤ 3) = true := by simpa using h2
      have He : Hid ((decide (1 ≤ k) && decide (k ≤ 3)) = true) := by show _ = _; rw [d1, d2]; rfl
      clear h1 h2
      go_enter Tryz.func37, Tryz.ntmps37
      go_wp2
      go_ret
      exact ⟨by first | rfl | (rw [He.out]; rfl) | trivial, by first | rfl | trivial⟩
    · have d2 : decide (k ≤ 3) = false := by simpa using h2
      have He : Hid ((decide (1 ≤ k) && decide (k ≤ 3)) = false) := by show _ = _; rw [d1, d2]; rfl
      clear h1 h2
      go_enter Tryz.func37, Tryz.ntmps37
      go_wp2
      go_ret
      exact ⟨by rw [He.out]; rfl, by first | rfl | trivial⟩
  · have d1 : decide (1 ≤ k) = false := by simpa using h1
    have He : Hid ((decide (1 ≤ k) && decide (k ≤ 3)) = false) := by show _ = _; rw [d1]; rfl
    clear h1
    go_enter Tryz.func37, Tryz.ntmps37
    go_wp2
    go_ret
    exact ⟨by rw [He.out]; rfl, by first | rfl | trivial⟩
theorem cell_r2 (c : ByteArray) (w : World) : Calls Tryz.prog 38 #[.int .i64 2, .string c] w (ReadC w 2 c.data.toList) := by
  have hv : valid 2 0 c false = decide (c.size ≤ 256) := by
    unfold valid
    rw [if_neg (by omega), if_pos rfl]
    simp [veq]
    omega
  have HRC := Lib.hid (rc_str c)
  have HV := Lib.hid hv
  clear hv
  by_cases hs : c.size ≤ 256
  · have d1 : decide ((c.size : Int) ≤ 256) = true := by simp; omega
    have HH : Hid (ReadC w 2 c.data.toList (.returned (.tuple #[.agg #[.int .i64 2, .int .i64 0, .string c, .bool false], .bool true])) (w.alloc (.cells #[.int .i64 2, .int .i64 0, .string c, .bool false] 57))) := by
      have := HRC.out.1 ⟨rfl, by rw [HV.out]; simpa using hs⟩
      exact ⟨2, 0, c, false, true, rfl, (Below.refl _ _).alloc (Nat.le_refl _) _, .inl ⟨rfl, rfl, this.1, this.2⟩⟩
    clear hs
    go_enter Tryz.func38, Tryz.ntmps38
    go_wp2
    exact bodyPost_ret (v := .tuple #[.agg #[.int .i64 2, .int .i64 0, .string c, .bool false], .bool true]) (by simp [results, Tryz.results38, go_sem]) rfl HH.out
  · have d1 : decide ((c.size : Int) ≤ 256) = false := by simp; omega
    have HH : Hid (ReadC w 2 c.data.toList (.returned (.tuple #[.agg #[.int .i64 2, .int .i64 0, .string c, .bool false], .bool false])) (w.alloc (.cells #[.int .i64 2, .int .i64 0, .string c, .bool false] 57))) := by
      have := HRC.out.2 (fun h => by have h2 := h.2; rw [HV.out] at h2; exact hs (by simpa using h2))
      exact ⟨2, 0, c, false, false, rfl, (Below.refl _ _).alloc (Nat.le_refl _) _, .inr ⟨rfl, this⟩⟩
    clear hs
    go_enter Tryz.func38, Tryz.ntmps38
    go_wp2
    exact bodyPost_ret (v := .tuple #[.agg #[.int .i64 2, .int .i64 0, .string c, .bool false], .bool false]) (by simp [results, Tryz.results38, go_sem]) rfl HH.out
set_option maxRecDepth 100000 in
theorem cell_r1 (k : Int) (hk1 : 1 ≤ k) (hk2 : k ≠ 2) (c : ByteArray) (w : World) : Calls Tryz.prog 38 #[.int .i64 k, .string c] w (ReadC w k c.data.toList) := by
  have HKK := Lib.hid (And.intro hk1 hk2)
  have d2 : (k == 2) = false := by simpa using hk2
  clear hk1 hk2
  go_enter Tryz.func38, Tryz.ntmps38
  go_wp2_with fail
  refine (read_r c _).mono ?_
  rintro e w1 ⟨K, N, S, T, E, rfl, hb1, hE⟩
  have HRC := Lib.hid (rc_read HKK.out.2 HKK.out.1 hE)
  have hb0 : Below w.heap.size w w1 := ((Below.refl _ _).alloc (Nat.le_refl _) _).trans (hb1.mono (by simp))
  obtain ⟨hc1, hf1⟩ := bcell hb1
  have hz1 : w.heap.size < w1.heap.size := by have := hb1.size; simp at this; omega
  obtain ⟨g, hg⟩ : ∃ g, g = w.heap.size := ⟨_, rfl⟩
  have HG := Lib.hid hg
  have y0 : w1.cell? ⟨w.heap.size, 0, none⟩ = some (.int .i64 0) := by rw [hc1 _ _ (by simp)]; simp [go_sem]
  have y1 : w1.cell? ⟨w.heap.size, 1, none⟩ = some (.int .i64 0) := by rw [hc1 _ _ (by simp)]; simp [go_sem]
  have y2 : w1.cell? ⟨w.heap.size, 2, none⟩ = some (.string ⟨#[]⟩) := by rw [hc1 _ _ (by simp)]; simp [go_sem]
  have y3 : w1.cell? ⟨w.heap.size, 3, none⟩ = some (.bool false) := by rw [hc1 _ _ (by simp)]; simp [go_sem]
  have z0 : w1.frozen? ⟨w.heap.size, 0, none⟩ = false := by rw [hf1 _ _ (by simp)]; simp [go_sem]
  have z1 : w1.frozen? ⟨w.heap.size, 1, none⟩ = false := by rw [hf1 _ _ (by simp)]; simp [go_sem]
  have z2 : w1.frozen? ⟨w.heap.size, 2, none⟩ = false := by rw [hf1 _ _ (by simp)]; simp [go_sem]
  have z3 : w1.frozen? ⟨w.heap.size, 3, none⟩ = false := by rw [hf1 _ _ (by simp)]; simp [go_sem]
  rw [← hg] at y0 y1 y2 y3 z0 z1 z2 z3 hz1
  have KG : Hid (w.heap.size ≤ g) := by show _ ≤ _; omega
  go_upto_region 4 with fail
  rw [← HG.out]
  obtain ⟨g2, hg2⟩ : ∃ g2, g2 = w1.heap.size := ⟨_, rfl⟩
  obtain ⟨w3, hw3⟩ : ∃ x, x = w1.alloc (Obj.cells #[Value.int IntKind.i64 K, Value.int IntKind.i64 N, Value.string S, Value.bool T] 57) := ⟨_, rfl⟩
  have v0 : w3.cell? ⟨g2, 0, none⟩ = some (.int .i64 K) := by rw [hw3, hg2]; simp [go_sem]
  have v1 : w3.cell? ⟨g2, 1, none⟩ = some (.int .i64 N) := by rw [hw3, hg2]; simp [go_sem]
  have v2 : w3.cell? ⟨g2, 2, none⟩ = some (.string S) := by rw [hw3, hg2]; simp [go_sem]
  have v3 : w3.cell? ⟨g2, 3, none⟩ = some (.bool T) := by rw [hw3, hg2]; simp [go_sem]
  have hb13 : Below w1.heap.size w1 w3 := by rw [hw3]; exact (Below.refl _ _).alloc (Nat.le_refl _) _
  have HB3 : Hid (Below w.heap.size w w3) := hb0.trans (hb13.mono hb0.size)
  have x0 := (hb13.cell (p := ⟨g, 0, none⟩) hz1).trans y0
  have x1 := (hb13.cell (p := ⟨g, 1, none⟩) hz1).trans y1
  have x2 := (hb13.cell (p := ⟨g, 2, none⟩) hz1).trans y2
  have x3 := (hb13.cell (p := ⟨g, 3, none⟩) hz1).trans y3
  have u0 := (hb13.frozen (p := ⟨g, 0, none⟩) hz1).trans z0
  have u1 := (hb13.frozen (p := ⟨g, 1, none⟩) hz1).trans z1
  have u2 := (hb13.frozen (p := ⟨g, 2, none⟩) hz1).trans z2
  have u3 := (hb13.frozen (p := ⟨g, 3, none⟩) hz1).trans z3
  have k3 : ¬ (g = g2) := by omega
  have k4 : ¬ (g2 = g) := fun e => k3 e.symm
  rw [← hw3, ← hg2]
  obtain ⟨w5, hw5⟩ : ∃ w5, w5 = (((w3.setCell ⟨g, 0, none⟩ (.int .i64 K)).setCell ⟨g, 1, none⟩ (.int .i64 N)).setCell ⟨g, 2, none⟩ (.string S)).setCell ⟨g, 3, none⟩ (.bool T) := ⟨_, rfl⟩
  have q0 : w5.cell? ⟨g, 0, none⟩ = some (.int .i64 K) := by rw [hw5]; simp [go_sem, x0, x1, x2, x3]
  have q1 : w5.cell? ⟨g, 1, none⟩ = some (.int .i64 N) := by rw [hw5]; simp [go_sem, x0, x1, x2, x3]
  have q2 : w5.cell? ⟨g, 2, none⟩ = some (.string S) := by rw [hw5]; simp [go_sem, x0, x1, x2, x3]
  have q3 : w5.cell? ⟨g, 3, none⟩ = some (.bool T) := by rw [hw5]; simp [go_sem, x0, x1, x2, x3]
  have HB5 : Hid (Below w.heap.size w w5) := by
    show Below _ _ _
    rw [hw5]
    exact (((HB3.out.setCell (p := ⟨g, 0, none⟩) KG.out _).setCell (p := ⟨g, 1, none⟩) KG.out _).setCell (p := ⟨g, 2, none⟩) KG.out _).setCell (p := ⟨g, 3, none⟩) KG.out _
  have HW5 := Lib.hid hw5
  have hcase : (E = 0 ∧ valid K N S T = true) ∨ (E = 12 ∧ K = 0) := by
    rcases hE with ⟨h1, h2, _⟩ | ⟨h1, h2, _⟩
    · exact .inl ⟨h1, h2⟩
    · exact .inr ⟨h1, h2⟩
  clear y0 y1 y2 y3 z0 z1 z2 z3 hb1 hc1 hf1 hw3 hb13 hz1 hg hg2 hb0 hE hw5
  rcases hcase with ⟨rfl, hvl⟩ | ⟨hE12, hK0⟩
  · by_cases hk : K = k
    · have dk : (K == k) = true := by simpa using hk
      have HH : Hid (ReadC w k c.data.toList (.returned (.tuple #[.agg #[.int .i64 K, .int .i64 N, .string S, .bool T], .bool true])) w5.drew) := ⟨K, N, S, T, true, rfl, HB5.out.drew, .inl ⟨rfl, hk, HRC.out.1 ⟨hk, hvl⟩⟩⟩
      clear hk hvl
      go_region_law (fail)
      all_goals
        rw [← HW5.out]
        go_wp2
        exact bodyPost_ret (v := .tuple #[.agg #[.int .i64 K, .int .i64 N, .string S, .bool T], .bool true]) (by simp [results, Tryz.results38, go_sem, q0, q1, q2, q3]) rfl HH.out
    · have dk : (K == k) = false := by simpa using hk
      have HH : Hid (ReadC w k c.data.toList (.returned (.tuple #[.agg #[.int .i64 K, .int .i64 N, .string S, .bool T], .bool false])) w5.drew) := ⟨K, N, S, T, false, rfl, HB5.out.drew, .inr ⟨rfl, HRC.out.2 (fun h => hk h.1)⟩⟩
      clear hk hvl
      go_region_law (fail)
      all_goals
        rw [← HW5.out]
        go_wp2
        exact bodyPost_ret (v := .tuple #[.agg #[.int .i64 K, .int .i64 N, .string S, .bool T], .bool false]) (by simp [results, Tryz.results38, go_sem, q0, q1, q2, q3]) rfl HH.out
  · have dE : (E == 0) = false := by rw [hE12]; decide
    have HH : Hid (ReadC w k c.data.toList (.returned (.tuple #[.agg #[.int .i64 K, .int .i64 N, .string S, .bool T], .bool false])) w5.drew) := ⟨K, N, S, T, false, rfl, HB5.out.drew, .inr ⟨rfl, HRC.out.2 (fun h => by have := h.1; have := HKK.out.1; omega)⟩⟩
    clear hE12 hK0
    go_region
    all_goals
      rw [← HW5.out]
      go_wp2
      exact bodyPost_ret (v := .tuple #[.agg #[.int .i64 K, .int .i64 N, .string S, .bool T], .bool false]) (by simp [results, Tryz.results38, go_sem, q0, q1, q2, q3]) rfl HH.out
theorem cell_r (k : Int) (h1 : 1 ≤ k) (h3 : k ≤ 3) (c : ByteArray) (w : World) : Calls Tryz.prog 38 #[.int .i64 k, .string c] w (ReadC w k c.data.toList) := by
  by_cases h2 : k = 2
  · subst h2
    exact cell_r2 c w
  · exact cell_r1 k h1 h2 c w
end Go.Proofs.YtkficmbkoinjjaaGreatDoor
