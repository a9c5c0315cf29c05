/- A cell read as a value of a kind: readCell. -/
import Derived.Deep.RegionLaw
import Derived.Test.YtkficmbkoinjjaaGreatDoorE2
namespace Go.Proofs.YtkficmbkoinjjaaGreatDoor
open Go Go.RowKit
open V
set_option maxHeartbeats 4000000
set_option linter.unusedVariables false
set_option linter.unusedSimpArgs false
/-- a cell is read as a value of the kind k, or there is none -/
def ReadC (w : World) (k : Int) (c : Cell) (e : Ending) (w' : World) : Prop :=
  ∃ (K N : Int) (S : ByteArray) (T ok : Bool), e = .returned (.tuple #[.agg #[.int .i64 K, .int .i64 N, .string S, .bool T], .bool ok]) ∧ Below w.heap.size w w' ∧
    ((ok = true ∧ K = k ∧ Ok4 ⟨K, N, S, T⟩ ∧ cellV ⟨K, N, S, T⟩ = c) ∨ (ok = false ∧ ∀ v, Ok4 v → v.k = k → c ≠ cellV v))
theorem ReadC.drew {w : World} {k : Int} {c : Cell} {e : Ending} {w' : World} (h : ReadC w k c e w') : ReadC w k c e w'.drew := by
  obtain ⟨K, N, S, T, ok, h1, h2, h3⟩ := h
  exact ⟨K, N, S, T, ok, h1, h2.drew, h3⟩
set_option maxRecDepth 100000 in
theorem read_body2 (k : Int) (c : ByteArray) (w : World) (hF : ∀ wx, Calls Tryz.prog 33 #[.int .i64 k] wx fun e w' => e = .returned (.tuple #[.agg #[fn 55, fn 56], .bool true]) ∧ Below wx.heap.size wx w')
    (hD : ∀ wx, Below w.heap.size w wx → Calls Tryz.prog 55 #[.string c] wx (ValC wx k c.data.toList)) : Calls Tryz.prog 31 #[.int .i64 k, .string c] w (ReadC w k c.data.toList) := by
  have HF := Lib.hid hF
  have HD := Lib.hid hD
  clear hF hD
  go_enter Tryz.func31, Tryz.ntmps31
  go_wp2_with fail
  refine (HF.out _).mono ?_
  rintro e w1 ⟨rfl, hb1⟩
  have hB1 : Below w.heap.size w w1 := ((Below.refl _ _).alloc (Nat.le_refl _) _).trans (hb1.mono (by simp))
  obtain ⟨hc1, hf1⟩ := bcell hb1
  have hz1 : w.heap.size < w1.heap.size := by have := hb1.size; simp at this; omega
  have y0 : w1.cell? ⟨w.heap.size, 0, none⟩ = some (.int .i64 0) := by rw [hc1 _ _ (by simp)]; simp [go_sem]
  have y1 : w1.cell? ⟨w.heap.size, 1, none⟩ = some (.int .i64 0) := by rw [hc1 _ _ (by simp)]; simp [go_sem]
  have y2 : w1.cell? ⟨w.heap.size, 2, none⟩ = some (.string ⟨#[]⟩) := by rw [hc1 _ _ (by simp)]; simp [go_sem]
  have y3 : w1.cell? ⟨w.heap.size, 3, none⟩ = some (.bool false) := by rw [hc1 _ _ (by simp)]; simp [go_sem]
  have z0 : w1.frozen? ⟨w.heap.size, 0, none⟩ = false := by rw [hf1 _ _ (by simp)]; simp [go_sem]
  have z1 : w1.frozen? ⟨w.heap.size, 1, none⟩ = false := by rw [hf1 _ _ (by simp)]; simp [go_sem]
  have z2 : w1.frozen? ⟨w.heap.size, 2, none⟩ = false := by rw [hf1 _ _ (by simp)]; simp [go_sem]
  have z3 : w1.frozen? ⟨w.heap.size, 3, none⟩ = false := by rw [hf1 _ _ (by simp)]; simp [go_sem]
  have HB1 := Lib.hid hB1
  clear hb1 hB1 hc1 hf1
  go_wp2_with fail
  refine (HD.out _ (HB1.out.alloc (by omega) _)).mono ?_
  rintro e w2 ⟨K, N, S, T, rfl, hb2, hrc⟩
  have hbx : Below w1.heap.size w1 w2 := ((Below.refl _ _).alloc (Nat.le_refl _) _).trans (hb2.mono (by simp))
  have HB2 : Hid (Below w.heap.size w w2) := HB1.out.trans (hbx.mono HB1.out.size)
  have HRC := Lib.hid hrc
  obtain ⟨g, hg⟩ : ∃ g, g = w.heap.size := ⟨_, rfl⟩
  have HG := Lib.hid hg
  rw [← hg] at hz1 y0 y1 y2 y3 z0 z1 z2 z3
  go_upto_region 3 with fail
  rw [← HG.out]
  obtain ⟨g2, hg2⟩ : ∃ g2, g2 = w2.heap.size := ⟨_, rfl⟩
  obtain ⟨w3, hw3⟩ : ∃ x, x = w2.alloc (Obj.cells #[Value.int IntKind.i64 K, Value.int IntKind.i64 N, Value.string S, Value.bool T] 57) := ⟨_, rfl⟩
  have v0 : w3.cell? ⟨g2, 0, none⟩ = some (.int .i64 K) := by rw [hw3, hg2]; simp [go_sem]
  have v1 : w3.cell? ⟨g2, 1, none⟩ = some (.int .i64 N) := by rw [hw3, hg2]; simp [go_sem]
  have v2 : w3.cell? ⟨g2, 2, none⟩ = some (.string S) := by rw [hw3, hg2]; simp [go_sem]
  have v3 : w3.cell? ⟨g2, 3, none⟩ = some (.bool T) := by rw [hw3, hg2]; simp [go_sem]
  have hal : Below w2.heap.size w2 w3 := by rw [hw3]; exact (Below.refl _ _).alloc (Nat.le_refl _) _
  have hb13 : Below w1.heap.size w1 w3 := hbx.trans (hal.mono hbx.size)
  have HB3 : Hid (Below w.heap.size w w3) := HB1.out.trans (hb13.mono HB1.out.size)
  have x0 := (hb13.cell (p := ⟨g, 0, none⟩) hz1).trans y0
  have x1 := (hb13.cell (p := ⟨g, 1, none⟩) hz1).trans y1
  have x2 := (hb13.cell (p := ⟨g, 2, none⟩) hz1).trans y2
  have x3 := (hb13.cell (p := ⟨g, 3, none⟩) hz1).trans y3
  have u0 := (hb13.frozen (p := ⟨g, 0, none⟩) hz1).trans z0
  have u1 := (hb13.frozen (p := ⟨g, 1, none⟩) hz1).trans z1
  have u2 := (hb13.frozen (p := ⟨g, 2, none⟩) hz1).trans z2
  have u3 := (hb13.frozen (p := ⟨g, 3, none⟩) hz1).trans z3
  have k1 : g < w3.heap.size := Nat.lt_of_lt_of_le hz1 hb13.size
  have k2 : g2 < w3.heap.size := by rw [hw3, hg2]; simp
  have k3 : ¬ (g = g2) := by have := hbx.size; omega
  have k4 : ¬ (g2 = g) := fun e => k3 e.symm
  have KG : Hid (w.heap.size ≤ g) := by show _ ≤ _; omega
  rw [← hw3, ← hg2]
  clear y0 y1 y2 y3 z0 z1 z2 z3 hb2 hrc hbx hw3 hal hb13 hz1 hg hg2
  have HS : Hid (∀ wx, Below w3.heap.size w3 wx → Below w3.heap.size w3 wx ∧ wx.cell? ⟨g2, 0, none⟩ = some (.int .i64 K) ∧ wx.cell? ⟨g2, 1, none⟩ = some (.int .i64 N) ∧ wx.cell? ⟨g2, 2, none⟩ = some (.string S) ∧ wx.cell? ⟨g2, 3, none⟩ = some (.bool T) ∧
      wx.cell? ⟨g, 0, none⟩ = some (.int .i64 0) ∧ wx.cell? ⟨g, 1, none⟩ = some (.int .i64 0) ∧ wx.cell? ⟨g, 2, none⟩ = some (.string ⟨#[]⟩) ∧ wx.cell? ⟨g, 3, none⟩ = some (.bool false) ∧
      wx.frozen? ⟨g, 0, none⟩ = false ∧ wx.frozen? ⟨g, 1, none⟩ = false ∧ wx.frozen? ⟨g, 2, none⟩ = false ∧ wx.frozen? ⟨g, 3, none⟩ = false) := fun wx h =>
    ⟨h, (h.cell (p := ⟨g2, 0, none⟩) k2).trans v0, (h.cell (p := ⟨g2, 1, none⟩) k2).trans v1, (h.cell (p := ⟨g2, 2, none⟩) k2).trans v2, (h.cell (p := ⟨g2, 3, none⟩) k2).trans v3,
      (h.cell (p := ⟨g, 0, none⟩) k1).trans x0, (h.cell (p := ⟨g, 1, none⟩) k1).trans x1, (h.cell (p := ⟨g, 2, none⟩) k1).trans x2, (h.cell (p := ⟨g, 3, none⟩) k1).trans x3,
      (h.frozen (p := ⟨g, 0, none⟩) k1).trans u0, (h.frozen (p := ⟨g, 1, none⟩) k1).trans u1, (h.frozen (p := ⟨g, 2, none⟩) k1).trans u2, (h.frozen (p := ⟨g, 3, none⟩) k1).trans u3⟩
  have HT : Hid (∀ wx wy, Below w3.heap.size w3 wx → Below wx.heap.size wx wy → Below w3.heap.size w3 wy) := fun wx wy h1 h2 => h1.trans (h2.mono h1.size)
  have FIN : Hid (∀ wx ok, Below w3.heap.size w3 wx → ok = (decide (K = k) && valid K N S T) → ReadC w k c.data.toList (.returned (.tuple #[.agg #[.int .i64 K, .int .i64 N, .string S, .bool T], .bool ok])) ((((wx.setCell ⟨g, 0, none⟩ (.int .i64 K)).setCell ⟨g, 1, none⟩ (.int .i64 N)).setCell ⟨g, 2, none⟩ (.string S)).setCell ⟨g, 3, none⟩ (.bool T))) := fun wx ok h hok => by
    refine ⟨K, N, S, T, ok, rfl, ((((HB3.out.trans (h.mono HB3.out.size)).setCell (p := ⟨g, 0, none⟩) KG.out _).setCell (p := ⟨g, 1, none⟩) KG.out _).setCell (p := ⟨g, 2, none⟩) KG.out _).setCell (p := ⟨g, 3, none⟩) KG.out _, ?_⟩
    by_cases hkv : K = k ∧ valid K N S T = true
    · refine .inl ⟨by rw [hok, hkv.2]; simp [hkv.1], hkv.1, HRC.out.1 hkv⟩
    · refine .inr ⟨?_, HRC.out.2 hkv⟩
      rw [hok]
      simp only [Bool.and_eq_false_iff, decide_eq_false_iff_not]
      by_cases h1 : K = k
      · right
        cases h2 : valid K N S T
        · rfl
        · exact absurd ⟨h1, h2⟩ hkv
      · exact .inl h1
  obtain ⟨kk0, e0, e1, e2, e3, f0, f1, f2, f3, n0, n1, n2, n3⟩ := HS.out w3.drew ((Below.refl _ _).drew)
  clear v0 v1 v2 v3 x0 x1 x2 x3 u0 u1 u2 u3 HB1 HB2 HF HD HRC
  by_cases hk : K = k
  · subst hk
    have dk : (K == K) = true := by simp
    cases hvl : valid K N S T
    · have HVA : Hid (∀ wx, Calls Tryz.prog 52 #[.agg #[.int .i64 K, .int .i64 N, .string S, .bool T]] wx fun e w' => e = .returned (.bool (valid K N S T)) ∧ Below wx.heap.size wx w') := fun wx => valid_any K N S T wx
      rw [hvl] at HVA FIN
      clear hvl
      go_region_law (first | (go_simp; go_at_call 52; refine (HVA.out _).mono ?_; rintro e w4 ⟨rfl, hb4⟩; have hB4 := HT.out _ _ (by assumption) hb4; obtain ⟨kk1, e0', e1', e2', e3', f0', f1', f2', f3', n0', n1', n2', n3'⟩ := HS.out _ hB4))
      all_goals
        have HH := Lib.hid (FIN.out _ false hB4 (by simp))
        clear HVA FIN HS HT hb4
        obtain ⟨w5, hw5⟩ : ∃ w5, w5 = (((w4.setCell ⟨g, 0, none⟩ (.int .i64 K)).setCell ⟨g, 1, none⟩ (.int .i64 N)).setCell ⟨g, 2, none⟩ (.string S)).setCell ⟨g, 3, none⟩ (.bool T) := ⟨_, rfl⟩
        have q0 : w5.cell? ⟨g, 0, none⟩ = some (.int .i64 K) := by rw [hw5]; simp [go_sem, f0', f1', f2', f3']
        have q1 : w5.cell? ⟨g, 1, none⟩ = some (.int .i64 N) := by rw [hw5]; simp [go_sem, f0', f1', f2', f3']
        have q2 : w5.cell? ⟨g, 2, none⟩ = some (.string S) := by rw [hw5]; simp [go_sem, f0', f1', f2', f3']
        have q3 : w5.cell? ⟨g, 3, none⟩ = some (.bool T) := by rw [hw5]; simp [go_sem, f0', f1', f2', f3']
        rw [← hw5] at HH ⊢
        clear hw5
        go_wp2
        exact bodyPost_ret (v := .tuple #[.agg #[.int .i64 K, .int .i64 N, .string S, .bool T], .bool false]) (by simp [results, Tryz.results31, go_sem, q0, q1, q2, q3]) rfl HH.out
    · have HVA : Hid (∀ wx, Calls Tryz.prog 52 #[.agg #[.int .i64 K, .int .i64 N, .string S, .bool T]] wx fun e w' => e = .returned (.bool (valid K N S T)) ∧ Below wx.heap.size wx w') := fun wx => valid_any K N S T wx
      rw [hvl] at HVA FIN
      clear hvl
      go_region_law (first | (go_simp; go_at_call 52; refine (HVA.out _).mono ?_; rintro e w4 ⟨rfl, hb4⟩; have hB4 := HT.out _ _ (by assumption) hb4; obtain ⟨kk1, e0', e1', e2', e3', f0', f1', f2', f3', n0', n1', n2', n3'⟩ := HS.out _ hB4))
      all_goals
        have HH := Lib.hid (FIN.out _ true hB4 (by simp))
        clear HVA FIN HS HT hb4
        obtain ⟨w5, hw5⟩ : ∃ w5, w5 = (((w4.setCell ⟨g, 0, none⟩ (.int .i64 K)).setCell ⟨g, 1, none⟩ (.int .i64 N)).setCell ⟨g, 2, none⟩ (.string S)).setCell ⟨g, 3, none⟩ (.bool T) := ⟨_, rfl⟩
        have q0 : w5.cell? ⟨g, 0, none⟩ = some (.int .i64 K) := by rw [hw5]; simp [go_sem, f0', f1', f2', f3']
        have q1 : w5.cell? ⟨g, 1, none⟩ = some (.int .i64 N) := by rw [hw5]; simp [go_sem, f0', f1', f2', f3']
        have q2 : w5.cell? ⟨g, 2, none⟩ = some (.string S) := by rw [hw5]; simp [go_sem, f0', f1', f2', f3']
        have q3 : w5.cell? ⟨g, 3, none⟩ = some (.bool T) := by rw [hw5]; simp [go_sem, f0', f1', f2', f3']
        rw [← hw5] at HH ⊢
        clear hw5
        go_wp2
        exact bodyPost_ret (v := .tuple #[.agg #[.int .i64 K, .int .i64 N, .string S, .bool T], .bool true]) (by simp [results, Tryz.results31, go_sem, q0, q1, q2, q3]) rfl HH.out
  · have dk : (K == k) = false := by simpa using hk
    obtain ⟨kk2, o0, o1, o2, o3, p0, p1, p2, p3, r0, r1, r2, r3⟩ := HS.out w3 (Below.refl _ _)
    have HH := Lib.hid (FIN.out _ false kk2 (by simp [hk])).drew
    clear FIN HS HT hk e0 e1 e2 e3 f0 f1 f2 f3 n0 n1 n2 n3 kk0
    go_region_law (fail)
    all_goals
      obtain ⟨w5, hw5⟩ : ∃ w5, w5 = (((w3.setCell ⟨g, 0, none⟩ (.int .i64 K)).setCell ⟨g, 1, none⟩ (.int .i64 N)).setCell ⟨g, 2, none⟩ (.string S)).setCell ⟨g, 3, none⟩ (.bool T) := ⟨_, rfl⟩
      have q0 : w5.cell? ⟨g, 0, none⟩ = some (.int .i64 K) := by rw [hw5]; simp [go_sem, p0, p1, p2, p3]
      have q1 : w5.cell? ⟨g, 1, none⟩ = some (.int .i64 N) := by rw [hw5]; simp [go_sem, p0, p1, p2, p3]
      have q2 : w5.cell? ⟨g, 2, none⟩ = some (.string S) := by rw [hw5]; simp [go_sem, p0, p1, p2, p3]
      have q3 : w5.cell? ⟨g, 3, none⟩ = some (.bool T) := by rw [hw5]; simp [go_sem, p0, p1, p2, p3]
      rw [← hw5] at HH ⊢
      clear hw5
      go_wp2
      exact bodyPost_ret (v := .tuple #[.agg #[.int .i64 K, .int .i64 N, .string S, .bool T], .bool false]) (by simp [results, Tryz.results31, go_sem, q0, q1, q2, q3]) rfl HH.out
set_option maxRecDepth 100000 in
theorem read_body1 (k : Int) (c : ByteArray) (w : World) (hF : ∀ wx, Calls Tryz.prog 33 #[.int .i64 k] wx fun e w' => e = .returned (.tuple #[.agg #[fn 53, fn 54], .bool true]) ∧ Below wx.heap.size wx w')
    (hD : ∀ wx, Below w.heap.size w wx → Calls Tryz.prog 53 #[.string c] wx (ValC wx k c.data.toList)) : Calls Tryz.prog 31 #[.int .i64 k, .string c] w (ReadC w k c.data.toList) := by
  have HF := Lib.hid hF
  have HD := Lib.hid hD
  clear hF hD
  go_enter Tryz.func31, Tryz.ntmps31
  go_wp2_with fail
  refine (HF.out _).mono ?_
  rintro e w1 ⟨rfl, hb1⟩
  have hB1 : Below w.heap.size w w1 := ((Below.refl _ _).alloc (Nat.le_refl _) _).trans (hb1.mono (by simp))
  obtain ⟨hc1, hf1⟩ := bcell hb1
  have hz1 : w.heap.size < w1.heap.size := by have := hb1.size; simp at this; omega
  have y0 : w1.cell? ⟨w.heap.size, 0, none⟩ = some (.int .i64 0) := by rw [hc1 _ _ (by simp)]; simp [go_sem]
  have y1 : w1.cell? ⟨w.heap.size, 1, none⟩ = some (.int .i64 0) := by rw [hc1 _ _ (by simp)]; simp [go_sem]
  have y2 : w1.cell? ⟨w.heap.size, 2, none⟩ = some (.string ⟨#[]⟩) := by rw [hc1 _ _ (by simp)]; simp [go_sem]
  have y3 : w1.cell? ⟨w.heap.size, 3, none⟩ = some (.bool false) := by rw [hc1 _ _ (by simp)]; simp [go_sem]
  have z0 : w1.frozen? ⟨w.heap.size, 0, none⟩ = false := by rw [hf1 _ _ (by simp)]; simp [go_sem]
  have z1 : w1.frozen? ⟨w.heap.size, 1, none⟩ = false := by rw [hf1 _ _ (by simp)]; simp [go_sem]
  have z2 : w1.frozen? ⟨w.heap.size, 2, none⟩ = false := by rw [hf1 _ _ (by simp)]; simp [go_sem]
  have z3 : w1.frozen? ⟨w.heap.size, 3, none⟩ = false := by rw [hf1 _ _ (by simp)]; simp [go_sem]
  have HB1 := Lib.hid hB1
  clear hb1 hB1 hc1 hf1
  go_wp2_with fail
  refine (HD.out _ (HB1.out.alloc (by omega) _)).mono ?_
  rintro e w2 ⟨K, N, S, T, rfl, hb2, hrc⟩
  have hbx : Below w1.heap.size w1 w2 := ((Below.refl _ _).alloc (Nat.le_refl _) _).trans (hb2.mono (by simp))
  have HB2 : Hid (Below w.heap.size w w2) := HB1.out.trans (hbx.mono HB1.out.size)
  have HRC := Lib.hid hrc
  obtain ⟨g, hg⟩ : ∃ g, g = w.heap.size := ⟨_, rfl⟩
  have HG := Lib.hid hg
  rw [← hg] at hz1 y0 y1 y2 y3 z0 z1 z2 z3
  go_upto_region 3 with fail
  rw [← HG.out]
  obtain ⟨g2, hg2⟩ : ∃ g2, g2 = w2.heap.size := ⟨_, rfl⟩
  obtain ⟨w3, hw3⟩ : ∃ x, x = w2.alloc (Obj.cells #[Value.int IntKind.i64 K, Value.int IntKind.i64 N, Value.string S, Value.bool T] 57) := ⟨_, rfl⟩
  have v0 : w3.cell? ⟨g2, 0, none⟩ = some (.int .i64 K) := by rw [hw3, hg2]; simp [go_sem]
  have v1 : w3.cell? ⟨g2, 1, none⟩ = some (.int .i64 N) := by rw [hw3, hg2]; simp [go_sem]
  have v2 : w3.cell? ⟨g2, 2, none⟩ = some (.string S) := by rw [hw3, hg2]; simp [go_sem]
  have v3 : w3.cell? ⟨g2, 3, none⟩ = some (.bool T) := by rw [hw3, hg2]; simp [go_sem]
  have hal : Below w2.heap.size w2 w3 := by rw [hw3]; exact (Below.refl _ _).alloc (Nat.le_refl _) _
  have hb13 : Below w1.heap.size w1 w3 := hbx.trans (hal.mono hbx.size)
  have HB3 : Hid (Below w.heap.size w w3) := HB1.out.trans (hb13.mono HB1.out.size)
  have x0 := (hb13.cell (p := ⟨g, 0, none⟩) hz1).trans y0
  have x1 := (hb13.cell (p := ⟨g, 1, none⟩) hz1).trans y1
  have x2 := (hb13.cell (p := ⟨g, 2, none⟩) hz1).trans y2
  have x3 := (hb13.cell (p := ⟨g, 3, none⟩) hz1).trans y3
  have u0 := (hb13.frozen (p := ⟨g, 0, none⟩) hz1).trans z0
  have u1 := (hb13.frozen (p := ⟨g, 1, none⟩) hz1).trans z1
  have u2 := (hb13.frozen (p := ⟨g, 2, none⟩) hz1).trans z2
  have u3 := (hb13.frozen (p := ⟨g, 3, none⟩) hz1).trans z3
  have k1 : g < w3.heap.size := Nat.lt_of_lt_of_le hz1 hb13.size
  have k2 : g2 < w3.heap.size := by rw [hw3, hg2]; simp
  have k3 : ¬ (g = g2) := by have := hbx.size; omega
  have k4 : ¬ (g2 = g) := fun e => k3 e.symm
  have KG : Hid (w.heap.size ≤ g) := by show _ ≤ _; omega
  rw [← hw3, ← hg2]
  clear y0 y1 y2 y3 z0 z1 z2 z3 hb2 hrc hbx hw3 hal hb13 hz1 hg hg2
  have HS : Hid (∀ wx, Below w3.heap.size w3 wx → Below w3.heap.size w3 wx ∧ wx.cell? ⟨g2, 0, none⟩ = some (.int .i64 K) ∧ wx.cell? ⟨g2, 1, none⟩ = some (.int .i64 N) ∧ wx.cell? ⟨g2, 2, none⟩ = some (.string S) ∧ wx.cell? ⟨g2, 3, none⟩ = some (.bool T) ∧
      wx.cell? ⟨g, 0, none⟩ = some (.int .i64 0) ∧ wx.cell? ⟨g, 1, none⟩ = some (.int .i64 0) ∧ wx.cell? ⟨g, 2, none⟩ = some (.string ⟨#[]⟩) ∧ wx.cell? ⟨g, 3, none⟩ = some (.bool false) ∧
      wx.frozen? ⟨g, 0, none⟩ = false ∧ wx.frozen? ⟨g, 1, none⟩ = false ∧ wx.frozen? ⟨g, 2, none⟩ = false ∧ wx.frozen? ⟨g, 3, none⟩ = false) := fun wx h =>
    ⟨h, (h.cell (p := ⟨g2, 0, none⟩) k2).trans v0, (h.cell (p := ⟨g2, 1, none⟩) k2).trans v1, (h.cell (p := ⟨g2, 2, none⟩) k2).trans v2, (h.cell (p := ⟨g2, 3, none⟩) k2).trans v3,
      (h.cell (p := ⟨g, 0, none⟩) k1).trans x0, (h.cell (p := ⟨g, 1, none⟩) k1).trans x1, (h.cell (p := ⟨g, 2, none⟩) k1).trans x2, (h.cell (p := ⟨g, 3, none⟩) k1).trans x3,
      (h.frozen (p := ⟨g, 0, none⟩) k1).trans u0, (h.frozen (p := ⟨g, 1, none⟩) k1).trans u1, (h.frozen (p := ⟨g, 2, none⟩) k1).trans u2, (h.frozen (p := ⟨g, 3, none⟩) k1).trans u3⟩
  have HT : Hid (∀ wx wy, Below w3.heap.size w3 wx → Below wx.heap.size wx wy → Below w3.heap.size w3 wy) := fun wx wy h1 h2 => h1.trans (h2.mono h1.size)
  have FIN : Hid (∀ wx ok, Below w3.heap.size w3 wx → ok = (decide (K = k) && valid K N S T) → ReadC w k c.data.toList (.returned (.tuple #[.agg #[.int .i64 K, .int .i64 N, .string S, .bool T], .bool ok])) ((((wx.setCell ⟨g, 0, none⟩ (.int .i64 K)).setCell ⟨g, 1, none⟩ (.int .i64 N)).setCell ⟨g, 2, none⟩ (.string S)).setCell ⟨g, 3, none⟩ (.bool T))) := fun wx ok h hok => by
    refine ⟨K, N, S, T, ok, rfl, ((((HB3.out.trans (h.mono HB3.out.size)).setCell (p := ⟨g, 0, none⟩) KG.out _).setCell (p := ⟨g, 1, none⟩) KG.out _).setCell (p := ⟨g, 2, none⟩) KG.out _).setCell (p := ⟨g, 3, none⟩) KG.out _, ?_⟩
    by_cases hkv : K = k ∧ valid K N S T = true
    · refine .inl ⟨by rw [hok, hkv.2]; simp [hkv.1], hkv.1, HRC.out.1 hkv⟩
    · refine .inr ⟨?_, HRC.out.2 hkv⟩
      rw [hok]
      simp only [Bool.and_eq_false_iff, decide_eq_false_iff_not]
      by_cases h1 : K = k
      · right
        cases h2 : valid K N S T
        · rfl
        · exact absurd ⟨h1, h2⟩ hkv
      · exact .inl h1
  obtain ⟨kk0, e0, e1, e2, e3, f0, f1, f2, f3, n0, n1, n2, n3⟩ := HS.out w3.drew ((Below.refl _ _).drew)
  clear v0 v1 v2 v3 x0 x1 x2 x3 u0 u1 u2 u3 HB1 HB2 HF HD HRC
  by_cases hk : K = k
  · subst hk
    have dk : (K == K) = true := by simp
    cases hvl : valid K N S T
    · have HVA : Hid (∀ wx, Calls Tryz.prog 52 #[.agg #[.int .i64 K, .int .i64 N, .string S, .bool T]] wx fun e w' => e = .returned (.bool (valid K N S T)) ∧ Below wx.heap.size wx w') := fun wx => valid_any K N S T wx
      rw [hvl] at HVA FIN
      clear hvl
      go_region_law (first | (go_simp; go_at_call 52; refine (HVA.out _).mono ?_; rintro e w4 ⟨rfl, hb4⟩; have hB4 := HT.out _ _ (by assumption) hb4; obtain ⟨kk1, e0', e1', e2', e3', f0', f1', f2', f3', n0', n1', n2', n3'⟩ := HS.out _ hB4))
      all_goals
        have HH := Lib.hid (FIN.out _ false hB4 (by simp))
        clear HVA FIN HS HT hb4
        obtain ⟨w5, hw5⟩ : ∃ w5, w5 = (((w4.setCell ⟨g, 0, none⟩ (.int .i64 K)).setCell ⟨g, 1, none⟩ (.int .i64 N)).setCell ⟨g, 2, none⟩ (.string S)).setCell ⟨g, 3, none⟩ (.bool T) := ⟨_, rfl⟩
        have q0 : w5.cell? ⟨g, 0, none⟩ = some (.int .i64 K) := by rw [hw5]; simp [go_sem, f0', f1', f2', f3']
        have q1 : w5.cell? ⟨g, 1, none⟩ = some (.int .i64 N) := by rw [hw5]; simp [go_sem, f0', f1', f2', f3']
        have q2 : w5.cell? ⟨g, 2, none⟩ = some (.string S) := by rw [hw5]; simp [go_sem, f0', f1', f2', f3']
        have q3 : w5.cell? ⟨g, 3, none⟩ = some (.bool T) := by rw [hw5]; simp [go_sem, f0', f1', f2', f3']
        rw [← hw5] at HH ⊢
        clear hw5
        go_wp2
        exact bodyPost_ret (v := .tuple #[.agg #[.int .i64 K, .int .i64 N, .string S, .bool T], .bool false]) (by simp [results, Tryz.results31, go_sem, q0, q1, q2, q3]) rfl HH.out
    · have HVA : Hid (∀ wx, Calls Tryz.prog 52 #[.agg #[.int .i64 K, .int .i64 N, .string S, .bool T]] wx fun e w' => e = .returned (.bool (valid K N S T)) ∧ Below wx.heap.size wx w') := fun wx => valid_any K N S T wx
      rw [hvl] at HVA FIN
      clear hvl
      go_region_law (first | (go_simp; go_at_call 52; refine (HVA.out _).mono ?_; rintro e w4 ⟨rfl, hb4⟩; have hB4 := HT.out _ _ (by assumption) hb4; obtain ⟨kk1, e0', e1', e2', e3', f0', f1', f2', f3', n0', n1', n2', n3'⟩ := HS.out _ hB4))
      all_goals
        have HH := Lib.hid (FIN.out _ true hB4 (by simp))
        clear HVA FIN HS HT hb4
        obtain ⟨w5, hw5⟩ : ∃ w5, w5 = (((w4.setCell ⟨g, 0, none⟩ (.int .i64 K)).setCell ⟨g, 1, none⟩ (.int .i64 N)).setCell ⟨g, 2, none⟩ (.string S)).setCell ⟨g, 3, none⟩ (.bool T) := ⟨_, rfl⟩
        have q0 : w5.cell? ⟨g, 0, none⟩ = some (.int .i64 K) := by rw [hw5]; simp [go_sem, f0', f1', f2', f3']
        have q1 : w5.cell? ⟨g, 1, none⟩ = some (.int .i64 N) := by rw [hw5]; simp [go_sem, f0', f1', f2', f3']
        have q2 : w5.cell? ⟨g, 2, none⟩ = some (.string S) := by rw [hw5]; simp [go_sem, f0', f1', f2', f3']
        have q3 : w5.cell? ⟨g, 3, none⟩ = some (.bool T) := by rw [hw5]; simp [go_sem, f0', f1', f2', f3']
        rw [← hw5] at HH ⊢
        clear hw5
        go_wp2
        exact bodyPost_ret (v := .tuple #[.agg #[.int .i64 K, .int .i64 N, .string S, .bool T], .bool true]) (by simp [results, Tryz.results31, go_sem, q0, q1, q2, q3]) rfl HH.out
  · have dk : (K == k) = false := by simpa using hk
    obtain ⟨kk2, o0, o1, o2, o3, p0, p1, p2, p3, r0, r1, r2, r3⟩ := HS.out w3 (Below.refl _ _)
    have HH := Lib.hid (FIN.out _ false kk2 (by simp [hk])).drew
    clear FIN HS HT hk e0 e1 e2 e3 f0 f1 f2 f3 n0 n1 n2 n3 kk0
    go_region_law (fail)
    all_goals
      obtain ⟨w5, hw5⟩ : ∃ w5, w5 = (((w3.setCell ⟨g, 0, none⟩ (.int .i64 K)).setCell ⟨g, 1, none⟩ (.int .i64 N)).setCell ⟨g, 2, none⟩ (.string S)).setCell ⟨g, 3, none⟩ (.bool T) := ⟨_, rfl⟩
      have q0 : w5.cell? ⟨g, 0, none⟩ = some (.int .i64 K) := by rw [hw5]; simp [go_sem, p0, p1, p2, p3]
      have q1 : w5.cell? ⟨g, 1, none⟩ = some (.int .i64 N) := by rw [hw5]; simp [go_sem, p0, p1, p2, p3]
      have q2 : w5.cell? ⟨g, 2, none⟩ = some (.string S) := by rw [hw5]; simp [go_sem, p0, p1, p2, p3]
      have q3 : w5.cell? ⟨g, 3, none⟩ = some (.bool T) := by rw [hw5]; simp [go_sem, p0, p1, p2, p3]
      rw [← hw5] at HH ⊢
      clear hw5
      go_wp2
      exact bodyPost_ret (v := .tuple #[.agg #[.int .i64 K, .int .i64 N, .string S, .bool T], .bool false]) (by simp [results, Tryz.results31, go_sem, q0, q1, q2, q3]) rfl HH.out
theorem readCell_any (k : Int) (h1 : 1 ≤ k) (h3 : k ≤ 3) (c : ByteArray) (w : World) (hv : Vv w) : Calls Tryz.prog 31 #[.int .i64 k, .string c] w (ReadC w k c.data.toList) := by
  by_cases h2 : k = 2
  · subst h2
    exact read_body2 2 c w formOf_2 (fun wx _ => bytes_read c wx)
  · refine read_body1 k c w (fun wx => ?_) (fun wx hx => shown_any k h2 h1 c wx (hv.below hx))
    have := formOf_in k h1 h3 wx
    unfold rdF wrF at this
    rw [if_neg h2, if_neg h2] at this
    exact this
end Go.Proofs.YtkficmbkoinjjaaGreatDoor
