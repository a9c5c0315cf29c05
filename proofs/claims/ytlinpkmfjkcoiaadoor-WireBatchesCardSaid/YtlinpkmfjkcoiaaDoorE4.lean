/- Contract of package wire's appendEvent. -/
import Derived.Test.YtlinpkmfjkcoiaaDoorE3
import Derived.LoopTactic
namespace Go.Proofs.YtlinpkmfjkcoiaaDoor
open Go Go.RowKit
set_option maxHeartbeats 4000000
set_option linter.unusedVariables false
set_option linter.unusedSimpArgs false
theorem ValRow.grown {w w' : World} {p : Option Addr} {vl : List V4} (h : ValRow w p vl) {row : Option Nat} (hg : w.grownBy w' row) (hs : ∀ a, p = some a → some a.block ≠ row) : ValRow w' p vl := by
  intro i hi
  obtain ⟨b, o, rfl, h1, h2, h3, h4⟩ := h i hi
  have e := hg.block b (lt_of_cell h1) (hs _ rfl)
  exact ⟨b, o, rfl, (World.cell?_of_block (a := ⟨b, o + i * 4, none⟩) e).trans h1, (World.cell?_of_block (a := ⟨b, o + i * 4 + 1, none⟩) e).trans h2, (World.cell?_of_block (a := ⟨b, o + i * 4 + 2, none⟩) e).trans h3, (World.cell?_of_block (a := ⟨b, o + i * 4 + 3, none⟩) e).trans h4⟩
theorem ValRow.nth {w : World} {p : Option Addr} {vl : List V4} (h : ValRow w p vl) {k : Nat} (hk : k < vl.length) : ∃ (u : V4) (b o : Nat), u = vl[k] ∧ p = some ⟨b, o, none⟩ ∧ w.cell? ⟨b, o + k * 4, none⟩ = some (.int .i64 u.k) ∧ w.cell? ⟨b, o + k * 4 + 1, none⟩ = some (.int .i64 u.n) ∧ w.cell? ⟨b, o + k * 4 + 2, none⟩ = some (.string u.s) ∧ w.cell? ⟨b, o + k * 4 + 3, none⟩ = some (.bool u.b) := by
  obtain ⟨b, o, e, h1, h2, h3, h4⟩ := h k hk
  exact ⟨_, b, o, rfl, e, h1, h2, h3, h4⟩
theorem put_len {n : Int} (h : I64 n) : (put n).length ≤ 10 := grp_len10 (zig_lt h.1 h.2)
theorem valW_len {v : V4} (h : Ok4 v) (hi : In4 v) : (valW v).length ≤ 300 := by
  rcases ok_cases h with ⟨n, rfl⟩ | ⟨s, hs, rfl⟩ | ⟨b, rfl⟩
  · have : (put n).length ≤ 10 := put_len hi
    simp [valW]; omega
  · have : (put (s.toList.length : Int)).length ≤ 10 := put_len (by rw [size_toList]; unfold I64; omega)
    have h2 := size_toList s
    simp [valW, textW]; omega
  · simp [valW]
theorem valsW_len : ∀ {vl : List V4}, (∀ v ∈ vl, Ok4 v ∧ In4 v) → (valsW vl).length ≤ 300 * vl.length
  | [], _ => by simp [valsW]
  | v :: vl, h => by
    have h1 := valW_len (h v (by simp)).1 (h v (by simp)).2
    have h2 := valsW_len (vl := vl) fun u hu => h u (by simp [hu])
    have e : valsW (v :: vl) = valW v ++ valsW vl := rfl
    rw [e, List.length_append, List.length_cons]
    omega
theorem valsW_take {vl : List V4} {k : Nat} (h : k < vl.length) : valsW (vl.take (k + 1)) = valsW (vl.take k) ++ valW vl[k] := by
  unfold valsW
  rw [List.take_add_one, List.flatMap_append, List.getElem?_eq_getElem h]
  simp
theorem name_len {l : List UInt8} (h : nameL l = true) : 1 ≤ l.length ∧ l.length ≤ 32 := by
  unfold nameL at h
  simp only [Bool.and_eq_true, decide_eq_true_eq] at h
  exact ⟨h.1.1.1.1, h.1.1.1.2⟩
theorem evtW_len {ev : Evt} (h : OkE ev) : (evtW ev).length ≤ 5000 := by
  obtain ⟨h1, h2, h3, h4⟩ := h
  have a1 := name_len h1
  have a2 : (put ev.tm).length ≤ 10 := put_len (by unfold I64; omega)
  have a3 : (put (ev.vals.length : Int)).length ≤ 10 := put_len (by unfold I64; omega)
  have a4 : (put (ev.ty.toList.length : Int)).length ≤ 10 := put_len (by unfold I64; omega)
  have a5 := valsW_len h4
  unfold evtW textW
  simp only [List.length_append]
  omega
/-- the head of appendEvent's loop -/
structure ApLoop (w0 : World) (B : Nat) (v : Value) (l : List UInt8) (k : Nat) (vl : List V4) (p : Option Addr) (c : Nat) (wr : World) : Prop where
  out : Out wr B (.slice p (l ++ valsW (vl.take k)).length c) (l ++ valsW (vl.take k))
  wr_ : Wr w0 wr v (.slice p (l ++ valsW (vl.take k)).length c)
set_option maxRecDepth 100000 in
theorem appendEvent_any (ev : Evt) (hok : OkE ev) (B : Nat) (v : Value) (l : List UInt8) (p : Option Addr) (c : Nat) (w : World) (hB : B ≤ w.heap.size) (hown : Out w B v l) (hl : l.length ≤ 20000000) (hr : ValRow w p ev.vals) (hs : ∀ a, p = some a → some a.block ≠ v.ownBlock) :
    Calls Tryd.prog 48 #[v, .agg #[.string ev.ty, .int .i64 ev.tm, .slice p ev.vals.length c]] w (Wrote B w v (l ++ evtW ev)) := by
  obtain ⟨ty, tm, vl⟩ := ev
  obtain ⟨hnm, htm, h16, hvl⟩ := hok
  simp only at hnm htm h16 hvl hr ⊢
  have HNL := Lib.hid (name_len hnm)
  have HVL := Lib.hid hvl
  obtain ⟨n, hn⟩ : ∃ n, n = vl.length := ⟨_, rfl⟩
  rw [← hn] at h16 ⊢
  have HN := Lib.hid hn
  have HE : Hid (l ++ evtW ⟨ty, tm, vl⟩ = l ++ textW ty.toList ++ put tm ++ put (n : Int) ++ valsW vl) := by show _ = _; rw [hn]; unfold evtW; simp only [List.append_assoc]
  obtain ⟨w0, hw0⟩ : ∃ x, x = w.alloc (.cells #[.string ty, .int .i64 tm, .slice p n c] 24) := ⟨_, rfl⟩
  have HW := Lib.hid hw0
  have T0 : Hid (Three w0 w.heap.size ty tm (.slice p n c)) := by show Three _ _ _ _ _; rw [hw0]; exact Three.new w ty tm p n c
  have hb0 : Below w.heap.size w w0 := by rw [hw0]; exact (Below.refl _ _).alloc (Nat.le_refl _) _
  have HR0 := Lib.hid (hr.below hb0)
  have HO0 : Hid (Out w0 B v l) := by show Out _ _ _ _; rw [hw0]; exact World.ownsRow.alloc hown _
  have HB0 : Hid (B ≤ w0.heap.size) := by have := hb0.size; show _ ≤ _; omega
  have HWR0 : Hid (∀ w2 v2, Wr w0 w2 v v2 → Wr w w2 v v2) := fun w2 v2 h => by rw [hw0] at h; exact h.alloc
  have HNE : Hid (some w.heap.size ≠ v.ownBlock) := fun e => by have := (World.ownsRow.lt hown _ e.symm).2; omega
  have HS := Lib.hid hs
  have HL2 : Hid ((textW ty.toList).length ≤ 50) := by
    have a4 : (put (ty.toList.length : Int)).length ≤ 10 := put_len (by have := HNL.out; unfold I64; omega)
    have := HNL.out
    show _ ≤ _
    unfold textW
    rw [List.length_append]
    omega
  have HTS : Hid (ty.size ≤ 1000000) := by have := HNL.out; rw [size_toList] at this; show _ ≤ _; omega
  have HTM : Hid (I64 tm) := by show I64 _; unfold I64; omega
  have HL3 : Hid ((put tm).length ≤ 10) := put_len HTM.out
  have HNI : Hid (I64 (n : Int)) := by show I64 _; unfold I64; omega
  have HL4 : Hid ((put (n : Int)).length ≤ 10) := put_len HNI.out
  obtain ⟨E, hE⟩ : ∃ E, E = w.heap.size := ⟨_, rfl⟩
  rw [← hE] at T0 HNE
  have HEE := Lib.hid hE
  clear hw0 hb0 hown hr hn hvl hs hnm htm
  obtain ⟨c0, c1, c2, z0, z1, z2⟩ := T0.out
  go_enter Tryd.func48, Tryd.ntmps48
  go_upto_region 1 with fail
  rw [← HW.out, ← hE]
  clear hE
  go_wp2_with fail
  refine (appendText_any ty B v l w0 HB0.out HO0.out (by omega) HTS.out).mono ?_
  obtain ⟨l1, hl1⟩ : ∃ l1, l1 = l ++ textW ty.toList := ⟨_, rfl⟩
  rw [← hl1] at HE ⊢
  have L1 : Hid (l1.length ≤ 20000050) := by have := HL2.out; show _ ≤ _; rw [hl1, List.length_append]; omega
  clear hl1
  rintro e w1 ⟨p1, cc1, rfl, ho1, hw1⟩
  have T1 := Lib.hid (T0.out.grown hw1.g HNE.out)
  have HO1 := Lib.hid ho1
  have HW1 := Lib.hid hw1
  have HB1 : Hid (B ≤ w1.heap.size) := by have := hw1.g.size; have := HB0.out; show _ ≤ _; omega
  clear c0 c1 c2 z0 z1 z2 ho1 hw1
  obtain ⟨c0, c1, c2, z0, z1, z2⟩ := T1.out
  go_wp2_with fail
  refine (appendInt_any tm HTM.out B _ l1 w1 HB1.out HO1.out (by have := L1.out; omega)).mono ?_
  obtain ⟨l2, hl2⟩ : ∃ l2, l2 = l1 ++ put tm := ⟨_, rfl⟩
  rw [← hl2] at HE ⊢
  have L2 : Hid (l2.length ≤ 20000060) := by have := HL3.out; have := L1.out; show _ ≤ _; rw [hl2, List.length_append]; omega
  clear hl2
  rintro e w2 ⟨p2, cc2, rfl, ho2, hw2⟩
  have HW2 := Lib.hid (HW1.out.trans hw2)
  have T2 := Lib.hid (T0.out.grown HW2.out.g HNE.out)
  have HO2 := Lib.hid ho2
  have HB2 : Hid (B ≤ w2.heap.size) := by have := hw2.g.size; have := HB1.out; show _ ≤ _; omega
  clear c0 c1 c2 z0 z1 z2 ho2 hw2
  obtain ⟨c0, c1, c2, z0, z1, z2⟩ := T2.out
  go_wp2_with fail
  refine (appendInt_any (n : Int) HNI.out B _ l2 w2 HB2.out HO2.out (by have := L2.out; omega)).mono ?_
  obtain ⟨l3, hl3⟩ : ∃ l3, l3 = l2 ++ put (n : Int) := ⟨_, rfl⟩
  rw [← hl3] at HE ⊢
  have L3 : Hid (l3.length ≤ 20000070) := by have := HL4.out; have := L2.out; show _ ≤ _; rw [hl3, List.length_append]; omega
  clear hl3
  rintro e w3 ⟨p3, cc3, rfl, ho3, hw3⟩
  have HW3 := Lib.hid (HW2.out.trans hw3)
  have T3 := Lib.hid (T0.out.grown HW3.out.g HNE.out)
  have HO3 := Lib.hid ho3
  clear c0 c1 c2 z0 z1 z2 ho3 hw3
  obtain ⟨c0, c1, c2, z0, z1, z2⟩ := T3.out
  go_wp2
  go_loopw [0, 23] (fun o i wr => ∃ (k : Nat) (p : Option Addr) (c : Nat), k ≤ n ∧ i = .int .i64 k ∧ o = .slice p (l3 ++ valsW (vl.take k)).length c ∧ ApLoop w0 B v l3 k vl p c wr) (fun _ i _ => n - (intOf i).toNat)
  case atStart => exact ⟨0, p3, cc3, Nat.zero_le _, rfl, by simp [valsW], by simpa [valsW] using HO3.out, by simpa [valsW] using HW3.out⟩
  case round =>
    obtain ⟨k, p4, cc4, hk, rfl, rfl, hap⟩ := hrel
    have AP := Lib.hid hap
    have hsz := hap.wr_.g.size
    clear hap
    by_cases hlt : k < n
    · have hkl : k < vl.length := by rw [← HN.out]; exact hlt
      have HKL := Lib.hid hkl
      obtain ⟨u, b, o, hu, rfl, d0, d1, d2, d3⟩ := (HR0.out.grown AP.out.wr_.g HS.out).nth hkl
      have hbl := lt_of_cell d0
      have HU := Lib.hid hu
      have HUO : Hid (Ok4 u ∧ In4 u) := by show _ ∧ _; rw [hu]; exact HVL.out _ (List.getElem_mem hkl)
      have HTK : Hid (valsW (vl.take (k + 1)) = valsW (vl.take k) ++ valW u) := by show _ = _; rw [hu]; exact valsW_take hkl
      have HLN : Hid ((l3 ++ valsW (vl.take k)).length ≤ 30000000) := by
        have h1 := valsW_len (vl := vl.take k) fun x hx => HVL.out x (List.mem_of_mem_take hx)
        have h2 := List.length_take_le k vl
        have h3 := L3.out
        show _ ≤ _
        rw [List.length_append]
        have : 300 * (vl.take k).length ≤ 300 * 16 := Nat.mul_le_mul_left _ (by rw [List.length_take]; omega)
        omega
      obtain ⟨uk, un, us, ub⟩ := u
      obtain ⟨lk, hlk⟩ : ∃ lk, lk = l3 ++ valsW (vl.take k) := ⟨_, rfl⟩
      have HLK := Lib.hid hlk
      have HLN' : Hid (lk.length ≤ 30000000) := by rw [hlk]; exact HLN.out
      have AO : Hid (Out wr B (.slice p4 lk.length cc4) lk) := by rw [hlk]; exact AP.out.out
      have AW : Hid (Wr w0 wr v (.slice p4 lk.length cc4)) := by rw [hlk]; exact AP.out.wr_
      rw [← hlk]
      clear hu hlk HLN AP
      have HB4 : Hid (B ≤ wr.heap.size) := by have := HB0.out; show _ ≤ _; omega
      go_wp2_with fail
      have HAV := (appendValue_any ⟨uk, un, us, ub⟩ HUO.out.1 HUO.out.2 B (.slice p4 lk.length cc4) lk (wr.alloc (.cells #[.int .i64 uk, .int .i64 un, .string us, .bool ub] 96)) (by have := HB4.out; simp; omega) (World.ownsRow.alloc AO.out _) (by have := HLN'.out; omega))
      refine HAV.mono ?_
      rintro e w5 ⟨p5, cc5, rfl, ho5, hw5⟩
      have HO5 := Lib.hid ho5
      have HW5 := Lib.hid (AW.out.trans hw5.alloc)
      clear ho5 hw5 HAV d0 d1 d2 d3
      have HEQ : Hid (l3 ++ valsW (vl.take (k + 1)) = lk ++ valW ⟨uk, un, us, ub⟩) := by show _ = _; rw [HTK.out, HLK.out, List.append_assoc]
      go_wp2
      go_roundw
      case rel => exact ⟨k + 1, p5, cc5, by omega, by go_num, by rw [HEQ.out]; first | rfl | simp, by rw [HEQ.out]; exact HO5.out, by rw [HEQ.out]; exact HW5.out⟩
      case measure => simp [intOf]; omega
    · have hkk : k = n := by omega
      have HKK := Lib.hid hkk
      have HFIN : Hid (l3 ++ valsW (vl.take k) = l ++ evtW ⟨ty, tm, vl⟩) := by
        show _ = _
        rw [HE.out, HKK.out, HN.out, List.take_of_length_le (Nat.le_refl _)]
      have HLN : Hid ((l ++ evtW ⟨ty, tm, vl⟩).length = l3.length + (valsW (vl.take k)).length) := by show _ = _; rw [← HFIN.out, List.length_append]
      have HWW := Lib.hid (HWR0.out _ _ AP.out.wr_)
      clear hkk
      go_wp2
      go_ret
      exact ⟨p4, cc4, by rw [HLN.out]; first | rfl | simp, by rw [← HFIN.out]; exact AP.out.out, by rw [← HFIN.out]; exact HWW.out⟩
end Go.Proofs.YtlinpkmfjkcoiaaDoor
