/- An event as a row: Row. -/
import Derived.Deep.AppendLies
import Derived.Test.YtkficmbkoinjjaaGreatDoorE2
import Derived.Test.YtkficmbkoinjjaaGreatDoorE4
namespace Go.Proofs.YtkficmbkoinjjaaGreatDoor
open Go Go.RowKit
open V
set_option maxHeartbeats 4000000
set_option linter.unusedVariables false
set_option linter.unusedSimpArgs false
/-- the cells of an event's first k values -/
theorem rowC_take {tm : Int} {vl : List V4} {k : Nat} {v : V4} (h : vl[k]? = some v) : rowC tm (vl.take (k + 1)) = rowC tm (vl.take k) ++ [cellV v] := by
  obtain ⟨h1, rfl⟩ := List.getElem?_eq_some_iff.1 h
  rw [take_snoc' h1]
  unfold rowC
  rw [List.map_append]
  rfl
/-- an event is written as its row, or there is an error -/
def RowIs2 (w : World) (nm ty : ByteArray) (kd : List Int) (tm : Int) (vl : List V4) (e : Ending) (w' : World) : Prop :=
  Below w.heap.size w w' ∧ ((ty = nm ∧ Fits kd tm vl ∧ ∃ v, e = .returned (.tuple #[v, .int .i64 0]) ∧ OutS w' w.heap.size v (rowC tm vl)) ∨ (¬(ty = nm ∧ Fits kd tm vl) ∧ ∃ E : Int, E ≠ 0 ∧ e = .returned (.tuple #[.slice none 0 0, .int .i64 E]) ∧ FltE nm ty kd tm vl E))
set_option maxRecDepth 100000 in
theorem row2_any (nm : ByteArray) (p : Option Addr) (l : List (ByteArray × Int)) (c : Nat) (ty : ByteArray) (tm : Int) (q : Option Addr) (vl : List V4) (d : Nat) (w : World) (hv : Vv w) (hA : AtRow w p l) (hV : ValRow w q vl) (hn : ∀ u ∈ vl, I64 u.n) (hl : l.length ≤ 100000000) (hm : vl.length ≤ 100000000) :
    Calls Tryz.prog 14 #[.agg #[.string nm, .slice p l.length c], .agg #[.string ty, .int .i64 tm, .slice q vl.length d]] w (RowIs2 w nm ty (kdL l) tm vl) := by
  obtain ⟨i9, hi9, s0, s1, s2⟩ := info_parts infoStr
  obtain ⟨n, hnn⟩ : ∃ n, n = vl.length := ⟨_, rfl⟩
  obtain ⟨m, hmm⟩ : ∃ m, m = l.length := ⟨_, rfl⟩
  have HN := Lib.hid hnn
  have HI := Lib.hid hn
  obtain ⟨w1, hw1⟩ : ∃ x, x = (w.alloc (Obj.cells #[.string nm, .slice p l.length c] 25)).alloc (Obj.cells #[.string ty, .int .i64 tm, .slice q vl.length d] 41) := ⟨_, rfl⟩
  have hb1 : Below w.heap.size w w1 := by rw [hw1]; exact ((Below.refl _ _).alloc (Nat.le_refl _) _).alloc (by simp) _
  have a0 : w1.cell? ⟨w.heap.size, 0, none⟩ = some (.string nm) := by rw [hw1]; simp [go_sem]
  have a1 : w1.cell? ⟨w.heap.size, 1, none⟩ = some (.slice p m c) := by rw [hw1, hmm]; simp [go_sem]
  have b0 : w1.cell? ⟨w.heap.size + 1, 0, none⟩ = some (.string ty) := by rw [hw1]; simp [go_sem]
  have b1 : w1.cell? ⟨w.heap.size + 1, 1, none⟩ = some (.int .i64 tm) := by rw [hw1]; simp [go_sem]
  have b2 : w1.cell? ⟨w.heap.size + 1, 2, none⟩ = some (.slice q n d) := by rw [hw1, hnn]; simp [go_sem]
  have hz1 : w.heap.size + 1 < w1.heap.size := by rw [hw1]; simp
  have HF := Lib.hid (fault_any nm p l c ty tm q vl d w1 (hA.below hb1) (hV.below hb1) hn hl hm)
  have HV := Lib.hid (hV.below hb1)
  have HVV := Lib.hid (hv.below hb1)
  have HV0 := Lib.hid hV
  have HVV0 := Lib.hid hv
  have HB1 := Lib.hid hb1
  rw [← hnn, ← hmm] at hw1
  rw [← hnn] at hm ⊢
  rw [← hmm] at hl ⊢
  rw [← hnn, ← hmm] at HF
  have HW2 := Lib.hid hw1
  obtain ⟨g, hg⟩ : ∃ g, g = w.heap.size := ⟨_, rfl⟩
  have HG := Lib.hid hg
  rw [← hg] at a0 a1 b0 b1 b2 hz1
  have zg : g < w1.heap.size := by omega
  clear hA hV hn hnn hmm hb1 hw1 hv
  go_enter Tryz.func14, Tryz.ntmps14
  go_upto_region 1 with fail
  rw [← HW2.out, ← HG.out]
  clear hg
  go_wp2_with fail
  refine HF.out.mono ?_
  rintro e w2 ⟨E, rfl, hb2, hE, hFE⟩
  have HFE := Lib.hid hFE
  clear hFE
  have HE := Lib.hid hE
  have HB2 : Hid (Below w.heap.size w w2) := HB1.out.trans (hb2.mono HB1.out.size)
  have HV2 := Lib.hid (HV.out.below hb2)
  have HVV2 := Lib.hid (HVV.out.below hb2)
  replace b1 := (hb2.cell (p := ⟨g + 1, 1, none⟩) hz1).trans b1
  replace b2 := (hb2.cell (p := ⟨g + 1, 2, none⟩) hz1).trans b2
  have z2 : g + 1 < w2.heap.size := Nat.lt_of_lt_of_le hz1 hb2.size
  have HZ2 : Hid (w.heap.size ≤ w2.heap.size) := HB2.out.size
  clear a0 a1 b0 hE hb2 hz1 zg HV HVV
  by_cases h0 : E = 0
  case neg =>
    have d0 : (E != 0) = true := by simpa using h0
    have H0 := Lib.hid h0
    clear h0
    go_wp2
    go_ret2
    exact ⟨HB2.out, .inr ⟨fun h => H0.out (HE.out.2 h), E, H0.out, rfl, HFE.out⟩⟩
  case pos =>
  subst h0
  have hfit := HE.out.1 rfl
  have HFIT := Lib.hid hfit
  obtain ⟨c0, hc0⟩ : ∃ c0 : ByteArray, c0.data.toList = cellV (numV tm) := ⟨⟨(cellV (numV tm)).toArray⟩, rfl⟩
  have hW0 := writeCell_any (numV tm) (numV_ok hfit.2.1.i64) c0 hc0 w2 HVV2.out
  have HC0 := Lib.hid hc0
  clear hfit hc0
  go_wp2_with fail
  refine hW0.mono ?_
  rintro e w3 ⟨rfl, hb3⟩
  have HB3 : Hid (Below w.heap.size w w3) := HB2.out.trans (hb3.mono HB2.out.size)
  have HV3 := Lib.hid (HV2.out.below hb3)
  have HVV3 := Lib.hid (HVV2.out.below hb3)
  replace b2 := (hb3.cell (p := ⟨g + 1, 2, none⟩) z2).trans b2
  have z3 : g + 1 < w3.heap.size := Nat.lt_of_lt_of_le z2 hb3.size
  have HZ3 : Hid (w.heap.size ≤ w3.heap.size) := HB3.out.size
  have HOWN : Hid ((w3.alloc (.cells #[.string c0] 9)).ownsRow w.heap.size 9 1 (.slice (some ⟨w3.heap.size, 0, none⟩) 1 1) 1 (strs (rowC tm (vl.take 0)))) := by
    have := World.ownsRow_lit (base := w.heap.size) (e := 9) (size := 1) w3 #[.string c0] 1 HZ3.out (by decide) rfl
    have e : strs (rowC tm (vl.take 0)) = [.string c0] := by
      simp only [rowC, List.take_zero, List.map_nil, strs, List.map_cons, ← HC0.out]
    rw [e]
    exact this
  clear hb3 hW0 b1 HV2 HVV2
  obtain ⟨w4, hw4⟩ : ∃ x, x = w3.alloc (.cells #[.string c0] 9) := ⟨_, rfl⟩
  have hal : Below w3.heap.size w3 w4 := by rw [hw4]; exact (Below.refl _ _).alloc (Nat.le_refl _) _
  have HB4 : Hid (Below w.heap.size w w4) := HB3.out.trans (hal.mono HZ3.out)
  replace b2 := (hal.cell (p := ⟨g + 1, 2, none⟩) z3).trans b2
  obtain ⟨g3, hg3⟩ : ∃ g3, g3 = w3.heap.size := ⟨_, rfl⟩
  have HZ4 : Hid (w.heap.size ≤ w4.heap.size) := HB4.out.size
  have HG3 : Hid (w.heap.size ≤ g3) := by have := HZ3.out; show _ ≤ _; omega
  go_upto_region 5 with fail
  rw [← hw4, ← hg3] at HOWN ⊢
  clear hal hw4 hg3
  go_wp2
  go_loopw [7, 24] (fun rv iv wr => ∃ (k : Nat) (rp : Option Addr) (rc : Nat), k ≤ n ∧ iv = .int .i64 k ∧ rv = .slice rp (k + 1) rc ∧ Below w.heap.size w wr ∧ wr.ownsRow w.heap.size 9 1 (.slice rp (k + 1) rc) (k + 1) (strs (rowC tm (vl.take k)))) (fun _ iv _ => n - (intOf iv).toNat)
  case atStart => exact ⟨0, _, _, Nat.zero_le _, rfl, rfl, HB4.out, HOWN.out⟩
  case round =>
    obtain ⟨k, rp, rc, hk, rfl, rfl, hbr, hown⟩ := hrel
    have hvr := HV0.out.below hbr
    have HBR := Lib.hid hbr
    have HVW := Lib.hid (HVV0.out.below hbr)
    have HOW := Lib.hid hown
    have HZR : Hid (w.heap.size ≤ wr.heap.size) := hbr.size
    clear hbr hown
    by_cases hlt : k < n
    · have hkl : k < vl.length := by rw [← HN.out]; exact hlt
      obtain ⟨vk, vn, vs, vb, b, o, hvk, rfl, c0', c1, c2, c3⟩ := hvr.nth hkl
      have y1 := lt_of_cell c0'
      have HVK := Lib.hid hvk
      have hok := (HFIT.out.2.at hvk).1
      obtain ⟨cc, hcc⟩ : ∃ cc : ByteArray, cc.data.toList = cellV ⟨vk, vn, vs, vb⟩ := ⟨⟨(cellV ⟨vk, vn, vs, vb⟩).toArray⟩, rfl⟩
      have HWC : Hid (∀ wx, Below wr.heap.size wr wx → Calls Tryz.prog 35 #[.agg #[.int .i64 vk, .int .i64 vn, .string vs, .bool vb]] wx fun e w' => e = .returned (.string cc) ∧ Below wx.heap.size wx w') := fun wx hx => writeCell_any ⟨vk, vn, vs, vb⟩ hok cc hcc wx (HVW.out.below hx)
      have HCC := Lib.hid hcc
      have hm1 : k + 1 + 1 ≤ maxLen := by unfold maxLen; omega
      have hm2 : (k + 1 + 1) * 16 ≤ 140737488355328 := by omega
      clear hvr hkl hvk hok hcc
      go_wp2_with fail
      refine (HWC.out _ ((Below.refl _ _).alloc (Nat.le_refl _) _)).mono ?_
      rintro e w5 ⟨rfl, hb5⟩
      have hb5' : Below wr.heap.size wr w5 := ((Below.refl _ _).alloc (Nat.le_refl _) _).trans (hb5.mono (by simp))
      have HB5 : Hid (Below w.heap.size w w5) := HBR.out.trans (hb5'.mono HZR.out)
      have HO5 : Hid (w5.ownsRow w.heap.size 9 1 (.slice rp (k + 1) rc) (k + 1) (strs (rowC tm (vl.take k)))) := own_kept_any HOW.out hb5'
      have HZ5 : Hid (∀ o : Obj, w.heap.size ≤ (w5.alloc o).heap.size) := fun o => (by have := HB5.out.size; simp; omega)
      clear hb5 hb5' c0' c1 c2 c3 HWC
      go_wp2_with (at_builtin; refine wpList_append_lies _ rfl _ _ 22 rfl w.heap.size 9 i9 (.string ⟨#[]⟩) 1 16 Tryz.underlying22 hi9 s0 s1 s2 rfl (by decide) _ _ _ rfl (World.ownsRow.alloc HO5.out _) ⟨w5.heap.size, 0, none⟩ 1 1 [.string cc] rfl rfl (lit_cells w5 _ _) (by intro u hu; simp at hu; subst hu; rfl) (by decide) hm1 hm2 (HZ5.out _) (w5.heap.size + 1) (by simp) ?_)
      intro g6 cap6 w6 hown6 hgr6 hwh6 hlt6
      have hal : Below w5.heap.size w5 (w5.alloc (.cells #[.string cc] 9)) := (Below.refl _ _).alloc (Nat.le_refl _) _
      have HB6 : Hid (Below w.heap.size w w6) := (HB5.out.trans (hal.mono HB5.out.size)).grown hgr6 (HZ5.out _) (fun q hq => (World.ownsRow.lt HO5.out q hq).1)
      have HO6 : Hid (w6.ownsRow w.heap.size 9 1 (.slice (some ⟨g6, 0, none⟩) (k + 1 + 1) cap6) (k + 1 + 1) (strs (rowC tm (vl.take (k + 1))))) := by
        rw [rowC_take HVK.out, ← strs_snoc, ← HCC.out]
        exact hown6
      clear hown6 hgr6 hwh6 hlt6 hal
      go_wp2
      go_roundw
      case rel => exact ⟨k + 1, _, _, by omega, by go_num, rfl, HB6.out, HO6.out⟩
      case measure => simp [intOf]; omega
    · have hkn : k = n := by omega
      subst hkn
      clear hvr
      go_wp2
      go_ret2
      refine ⟨HBR.out, .inl ⟨HFIT.out.1, HFIT.out.2, _, rfl, ?_⟩⟩
      have e1 : vl.take k = vl := by rw [HN.out, List.take_length]
      have := HOW.out
      rw [e1] at this
      unfold OutS
      rw [rowC_len, ← HN.out]
      exact this
end Go.Proofs.YtkficmbkoinjjaaGreatDoor
