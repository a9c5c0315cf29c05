/- Contract of package wire's appendValue. -/
import Derived.Test.YtlinpkmfjkcoiaaDoorE1
namespace Go.Proofs.YtlinpkmfjkcoiaaDoor
open Go Go.RowKit
set_option maxHeartbeats 4000000
set_option linter.unusedVariables false
set_option linter.unusedSimpArgs false
attribute [local go_sem ↓] run_eql_V_f run_eql_V_t
/-- the kind's byte is written: what stands there then -/
structure Kd (B : Nat) (w : World) (l : List UInt8) (k n : Int) (s : ByteArray) (b : Bool) (g : Nat) (v v2 : Value) (w' : World) : Prop where
  own : w'.ownsRow B 5 1 v2 (l.length + 1) (Lib.byteCells (l ++ [UInt8.ofNat k.toNat]))
  four : Four w' g ⟨k, n, s, b⟩
  wr : Wr w w' v v2
  sz : B ≤ w'.heap.size
theorem Kd.of {B : Nat} {w w0 w2 : World} {l : List UInt8} {k n : Int} {s : ByteArray} {b : Bool} {v : Value} {g' m cap : Nat} (h0 : w0 = w.alloc (.cells #[.int .i64 k, .int .i64 n, .string s, .bool b] 96)) (hB : B ≤ w.heap.size) (ho : Out w B v l) {o : Obj}
    (hown : w2.ownsRow B 5 1 (.slice (some ⟨g', 0, none⟩) m cap) (l.length + 1) (Lib.byteCells l ++ [.int .u8 ((UInt8.ofNat k.toNat).toNat : Int)])) (hg : (w0.alloc o).grownBy w2 v.ownBlock) (hw : v.ownBlock = some g' ∨ g' = w0.heap.size + 1) : Kd B w l k n s b w.heap.size v (.slice (some ⟨g', 0, none⟩) m cap) w2 := by
  have hs0 : w0.heap.size = w.heap.size + 1 := by rw [h0]; simp
  have hlt : ∀ q, v.ownBlock = some q → q < w.heap.size := fun q hq => (World.ownsRow.lt ho q hq).2
  have hne : some w.heap.size ≠ v.ownBlock := fun e => by have := hlt _ e.symm; omega
  have hF : Four w0 w.heap.size ⟨k, n, s, b⟩ := by rw [h0]; exact Four.new w ⟨k, n, s, b⟩
  have hF1 := hF.below ((Below.refl _ _).alloc (Nat.le_refl _) o)
  have e := hg.block w.heap.size (by simp; omega) hne
  have hwr : Wr w w2 v (.slice (some ⟨g', 0, none⟩) m cap) := by
    have h1 : Wr w0 w2 v (.slice (some ⟨g', 0, none⟩) m cap) := (Wr.app hg (by simpa using hw)).alloc
    rw [h0] at h1
    exact h1.alloc
  have hbB : Below B w w2 := hwr.below ho hB
  refine ⟨by rw [← bytes_snoc]; exact hown, ?_, hwr, by have := hbB.size; omega⟩
  obtain ⟨c0, c1, c2, c3, z0, z1, z2, z3⟩ := hF1
  exact ⟨(World.cell?_of_block (a := ⟨w.heap.size, 0, none⟩) e).trans c0, (World.cell?_of_block (a := ⟨w.heap.size, 1, none⟩) e).trans c1, (World.cell?_of_block (a := ⟨w.heap.size, 2, none⟩) e).trans c2, (World.cell?_of_block (a := ⟨w.heap.size, 3, none⟩) e).trans c3,
    (World.frozen?_of_block (a := ⟨w.heap.size, 0, none⟩) e).trans z0, (World.frozen?_of_block (a := ⟨w.heap.size, 1, none⟩) e).trans z1, (World.frozen?_of_block (a := ⟨w.heap.size, 2, none⟩) e).trans z2, (World.frozen?_of_block (a := ⟨w.heap.size, 3, none⟩) e).trans z3⟩
set_option maxRecDepth 100000 in
theorem appendValue_10  (B : Nat) (v : Value) (l : List UInt8) (w : World) (hB : B ≤ w.heap.size) (hown : Out w B v l) (hl : l.length ≤ 40000000) :
    Calls Tryd.prog 79 #[v, .agg #[.int .i64 1, .int .i64 0, .string ⟨#[]⟩, .bool false]] w (Wrote B w v (l ++ valW ⟨1, 0, ⟨#[]⟩, false⟩)) := by
  obtain ⟨i0, hi, hz0, hz1, hz2⟩ := info_parts infoByte
  have hv : veq 1 0 ⟨#[]⟩ false 1 0 ⟨#[]⟩ false = true := by simp [veq]
  have HV : Hid (valW ⟨1, 0, ⟨#[]⟩, false⟩ = UInt8.ofNat 1 :: [UInt8.ofNat 0]) := by show _ = _; simp [valW, put, zig, grp_small]
  have hm1 : l.length + 1 ≤ maxLen := by unfold maxLen; omega
  have hm2 : (l.length + 1) * 1 ≤ 140737488355328 := by omega
  have hm3 : l.length + 1 + 1 ≤ maxLen := by unfold maxLen; omega
  have hm4 : (l.length + 1 + 1) * 1 ≤ 140737488355328 := by omega
  obtain ⟨w0, hw0⟩ : ∃ x, x = w.alloc (.cells #[.int .i64 1, .int .i64 0, .string ⟨#[]⟩, .bool false] 96) := ⟨_, rfl⟩
  have HW0 := Lib.hid hw0
  have HO := Lib.hid hown
  have hs0 : w0.heap.size = w.heap.size + 1 := by rw [hw0]; simp
  have HO0 : Hid (w0.ownsRow B 5 1 v l.length (Lib.byteCells l)) := by show World.ownsRow _ _ _ _ _ _ _; rw [hw0]; exact World.ownsRow.alloc hown _
  have HB0 : Hid (∀ o : Obj, B ≤ (w0.alloc o).heap.size) := fun o => by simp; omega
  have HF0 : Hid (Four w0 w.heap.size ⟨1, 0, ⟨#[]⟩, false⟩) := by show Four _ _ _; rw [hw0]; exact Four.new w ⟨1, 0, ⟨#[]⟩, false⟩
  obtain ⟨c0, c1, c2, c3, z0, z1, z2, z3⟩ := HF0.out
  have hgl : w.heap.size < w0.heap.size := by omega
  clear hw0 hown hs0
  go_enter Tryd.func79, Tryd.ntmps79
  go_upto_region 1 with fail
  rw [← HW0.out]
  go_upto_region 2 with (at_builtin; refine wpList_append_lies _ rfl _ _ 25 rfl B 5 i0 (.int .u8 0) 1 1 Tryd.underlying25 hi hz0 hz1 hz2 rfl (by decide) _ _ _ rfl (HO0.out.alloc _) ⟨w0.heap.size, 0, none⟩ 1 1 [.int .u8 1] rfl rfl (lit_cells _ _ _) (by intro u hu; simp at hu; subst hu; rfl) (by decide) hm1 hm2 (HB0.out _) (w0.heap.size + 1) (by simp) ?_; intro g2 cap2 w2 hown2 hgrow2 hwh2 hlt2)
  have hkd : Kd B w l 1 0 ⟨#[]⟩ false w.heap.size v (.slice (some ⟨g2, 0, none⟩) (l.length + 1) cap2) w2 := Kd.of HW0.out hB HO.out hown2 hgrow2 hwh2
  have KD := Lib.hid hkd
  obtain ⟨g, hg⟩ : ∃ g, g = w.heap.size := ⟨_, rfl⟩
  rw [← hg] at KD ⊢
  have HG := Lib.hid hg
  clear hkd hown2 hgrow2 hwh2 hlt2 c0 c1 c2 c3 z0 z1 z2 z3 hgl hg
  obtain ⟨c0, c1, c2, c3, z0, z1, z2, z3⟩ := KD.out.four
  have hsz := KD.out.sz
  have HBX : Hid (∀ o : Obj, B ≤ (w2.alloc o).heap.size) := fun o => by simp; omega
  go_wp2_with (at_builtin; refine wpList_append_lies _ rfl _ _ 25 rfl B 5 i0 (.int .u8 0) 1 1 Tryd.underlying25 hi hz0 hz1 hz2 rfl (by decide) _ _ _ rfl (KD.out.own.alloc _) ⟨w2.heap.size, 0, none⟩ 1 1 [.int .u8 0] rfl rfl (lit_cells _ _ _) (by intro u hu; simp at hu; subst hu; rfl) (by decide) hm3 hm4 (HBX.out _) (w2.heap.size + 1) (by simp) ?_)
  intro g3 cap3 w3 hown3 hgrow3 hwh3 hlt3
  have HLE : Hid ((l ++ valW ⟨1, 0, ⟨#[]⟩, false⟩).length = l.length + 1 + 1) := by show _ = _; rw [HV.out]; simp
  have hW3 : Wr w w3 v (.slice (some ⟨g3, 0, none⟩) (l.length + 1 + 1) cap3) := KD.out.wr.trans (Wr.app hgrow3 (by simpa using hwh3)).alloc
  have hO3 : Out w3 B (.slice (some ⟨g3, 0, none⟩) (l.length + 1 + 1) cap3) (l ++ valW ⟨1, 0, ⟨#[]⟩, false⟩) := by
    rw [HV.out, List.append_cons]
    refine Out.of hown3 (by simp) ?_
    rw [show (Value.int .u8 0) = Value.int .u8 ((UInt8.ofNat 0).toNat : Int) from rfl, bytes_snoc]
    rfl
  have HO3 := Lib.hid hO3
  have HW3 := Lib.hid hW3
  clear hown3 hgrow3 hwh3 hlt3 hO3 hW3
  go_wp2
  go_ret
  exact ⟨some ⟨g3, 0, none⟩, cap3, by rw [HLE.out]; rfl, by rw [HLE.out]; exact HO3.out, by rw [HLE.out]; exact HW3.out⟩
set_option maxRecDepth 100000 in
theorem appendValue_1 (n : Int) (hn : n ≠ 0) (h64 : I64 n) (B : Nat) (v : Value) (l : List UInt8) (w : World) (hB : B ≤ w.heap.size) (hown : Out w B v l) (hl : l.length ≤ 40000000) :
    Calls Tryd.prog 79 #[v, .agg #[.int .i64 1, .int .i64 n, .string ⟨#[]⟩, .bool false]] w (Wrote B w v (l ++ valW ⟨1, n, ⟨#[]⟩, false⟩)) := by
  obtain ⟨i0, hi, hz0, hz1, hz2⟩ := info_parts infoByte
  have hv : veq 1 n ⟨#[]⟩ false 1 0 ⟨#[]⟩ false = false := by simp [veq, hn]
  have HV : Hid (valW ⟨1, n, ⟨#[]⟩, false⟩ = UInt8.ofNat 1 :: put n) := by show _ = _; simp [valW]
  clear hn
  have hm1 : l.length + 1 ≤ maxLen := by unfold maxLen; omega
  have hm2 : (l.length + 1) * 1 ≤ 140737488355328 := by omega
  have hm3 : l.length + 1 + 1 ≤ maxLen := by unfold maxLen; omega
  have hm4 : (l.length + 1 + 1) * 1 ≤ 140737488355328 := by omega
  obtain ⟨w0, hw0⟩ : ∃ x, x = w.alloc (.cells #[.int .i64 1, .int .i64 n, .string ⟨#[]⟩, .bool false] 96) := ⟨_, rfl⟩
  have HW0 := Lib.hid hw0
  have HO := Lib.hid hown
  have hs0 : w0.heap.size = w.heap.size + 1 := by rw [hw0]; simp
  have HO0 : Hid (w0.ownsRow B 5 1 v l.length (Lib.byteCells l)) := by show World.ownsRow _ _ _ _ _ _ _; rw [hw0]; exact World.ownsRow.alloc hown _
  have HB0 : Hid (∀ o : Obj, B ≤ (w0.alloc o).heap.size) := fun o => by simp; omega
  have HF0 : Hid (Four w0 w.heap.size ⟨1, n, ⟨#[]⟩, false⟩) := by show Four _ _ _; rw [hw0]; exact Four.new w ⟨1, n, ⟨#[]⟩, false⟩
  obtain ⟨c0, c1, c2, c3, z0, z1, z2, z3⟩ := HF0.out
  have hgl : w.heap.size < w0.heap.size := by omega
  clear hw0 hown hs0
  go_enter Tryd.func79, Tryd.ntmps79
  go_upto_region 1 with fail
  rw [← HW0.out]
  go_upto_region 2 with (at_builtin; refine wpList_append_lies _ rfl _ _ 25 rfl B 5 i0 (.int .u8 0) 1 1 Tryd.underlying25 hi hz0 hz1 hz2 rfl (by decide) _ _ _ rfl (HO0.out.alloc _) ⟨w0.heap.size, 0, none⟩ 1 1 [.int .u8 1] rfl rfl (lit_cells _ _ _) (by intro u hu; simp at hu; subst hu; rfl) (by decide) hm1 hm2 (HB0.out _) (w0.heap.size + 1) (by simp) ?_; intro g2 cap2 w2 hown2 hgrow2 hwh2 hlt2)
  have hkd : Kd B w l 1 n ⟨#[]⟩ false w.heap.size v (.slice (some ⟨g2, 0, none⟩) (l.length + 1) cap2) w2 := Kd.of HW0.out hB HO.out hown2 hgrow2 hwh2
  have KD := Lib.hid hkd
  obtain ⟨g, hg⟩ : ∃ g, g = w.heap.size := ⟨_, rfl⟩
  rw [← hg] at KD ⊢
  have HG := Lib.hid hg
  clear hkd hown2 hgrow2 hwh2 hlt2 c0 c1 c2 c3 z0 z1 z2 z3 hgl hg
  obtain ⟨c0, c1, c2, c3, z0, z1, z2, z3⟩ := KD.out.four
  have hsz := KD.out.sz
  have HBX : Hid (∀ o : Obj, B ≤ (w2.alloc o).heap.size) := fun o => by simp; omega
  have HOK : Hid (Out w2 B (.slice (some ⟨g2, 0, none⟩) (l.length + 1) cap2) (l ++ [UInt8.ofNat 1])) := Out.of KD.out.own (by simp) rfl
  go_wp2_with fail
  refine (appendInt_any n h64 B (.slice (some ⟨g2, 0, none⟩) (l.length + 1) cap2) (l ++ [UInt8.ofNat 1]) w2 hsz HOK.out (by simp; omega)).mono ?_
  rintro e w3 ⟨p3, c3, rfl, hO3, hB3⟩
  rw [List.append_assoc, List.singleton_append, ← show valW _ = _ from HV.out] at hO3 hB3 ⊢
  have HO3 := Lib.hid hO3
  have HW3 := Lib.hid (KD.out.wr.trans hB3)
  clear hB3 hO3
  go_wp2
  go_ret
  exact ⟨p3, c3, by first | rfl | simp, HO3.out, HW3.out⟩
set_option maxRecDepth 100000 in
theorem appendValue_20  (B : Nat) (v : Value) (l : List UInt8) (w : World) (hB : B ≤ w.heap.size) (hown : Out w B v l) (hl : l.length ≤ 40000000) :
    Calls Tryd.prog 79 #[v, .agg #[.int .i64 2, .int .i64 0, .string ⟨#[]⟩, .bool false]] w (Wrote B w v (l ++ valW ⟨2, 0, ⟨#[]⟩, false⟩)) := by
  obtain ⟨i0, hi, hz0, hz1, hz2⟩ := info_parts infoByte
  have hv : veq 2 0 ⟨#[]⟩ false 2 0 ⟨#[]⟩ false = true := by simp [veq]
  have HV : Hid (valW ⟨2, 0, ⟨#[]⟩, false⟩ = UInt8.ofNat 2 :: [UInt8.ofNat 0]) := by show _ = _; simp [valW, textW, put, zig, grp_small, toList_mk]
  have hm1 : l.length + 1 ≤ maxLen := by unfold maxLen; omega
  have hm2 : (l.length + 1) * 1 ≤ 140737488355328 := by omega
  have hm3 : l.length + 1 + 1 ≤ maxLen := by unfold maxLen; omega
  have hm4 : (l.length + 1 + 1) * 1 ≤ 140737488355328 := by omega
  obtain ⟨w0, hw0⟩ : ∃ x, x = w.alloc (.cells #[.int .i64 2, .int .i64 0, .string ⟨#[]⟩, .bool false] 96) := ⟨_, rfl⟩
  have HW0 := Lib.hid hw0
  have HO := Lib.hid hown
  have hs0 : w0.heap.size = w.heap.size + 1 := by rw [hw0]; simp
  have HO0 : Hid (w0.ownsRow B 5 1 v l.length (Lib.byteCells l)) := by show World.ownsRow _ _ _ _ _ _ _; rw [hw0]; exact World.ownsRow.alloc hown _
  have HB0 : Hid (∀ o : Obj, B ≤ (w0.alloc o).heap.size) := fun o => by simp; omega
  have HF0 : Hid (Four w0 w.heap.size ⟨2, 0, ⟨#[]⟩, false⟩) := by show Four _ _ _; rw [hw0]; exact Four.new w ⟨2, 0, ⟨#[]⟩, false⟩
  obtain ⟨c0, c1, c2, c3, z0, z1, z2, z3⟩ := HF0.out
  have hgl : w.heap.size < w0.heap.size := by omega
  clear hw0 hown hs0
  go_enter Tryd.func79, Tryd.ntmps79
  go_upto_region 1 with fail
  rw [← HW0.out]
  go_upto_region 2 with (at_builtin; refine wpList_append_lies _ rfl _ _ 25 rfl B 5 i0 (.int .u8 0) 1 1 Tryd.underlying25 hi hz0 hz1 hz2 rfl (by decide) _ _ _ rfl (HO0.out.alloc _) ⟨w0.heap.size, 0, none⟩ 1 1 [.int .u8 2] rfl rfl (lit_cells _ _ _) (by intro u hu; simp at hu; subst hu; rfl) (by decide) hm1 hm2 (HB0.out _) (w0.heap.size + 1) (by simp) ?_; intro g2 cap2 w2 hown2 hgrow2 hwh2 hlt2)
  have hkd : Kd B w l 2 0 ⟨#[]⟩ false w.heap.size v (.slice (some ⟨g2, 0, none⟩) (l.length + 1) cap2) w2 := Kd.of HW0.out hB HO.out hown2 hgrow2 hwh2
  have KD := Lib.hid hkd
  obtain ⟨g, hg⟩ : ∃ g, g = w.heap.size := ⟨_, rfl⟩
  rw [← hg] at KD ⊢
  have HG := Lib.hid hg
  clear hkd hown2 hgrow2 hwh2 hlt2 c0 c1 c2 c3 z0 z1 z2 z3 hgl hg
  obtain ⟨c0, c1, c2, c3, z0, z1, z2, z3⟩ := KD.out.four
  have hsz := KD.out.sz
  have HBX : Hid (∀ o : Obj, B ≤ (w2.alloc o).heap.size) := fun o => by simp; omega
  go_wp2_with (at_builtin; refine wpList_append_lies _ rfl _ _ 25 rfl B 5 i0 (.int .u8 0) 1 1 Tryd.underlying25 hi hz0 hz1 hz2 rfl (by decide) _ _ _ rfl (KD.out.own.alloc _) ⟨w2.heap.size, 0, none⟩ 1 1 [.int .u8 0] rfl rfl (lit_cells _ _ _) (by intro u hu; simp at hu; subst hu; rfl) (by decide) hm3 hm4 (HBX.out _) (w2.heap.size + 1) (by simp) ?_)
  intro g3 cap3 w3 hown3 hgrow3 hwh3 hlt3
  have HLE : Hid ((l ++ valW ⟨2, 0, ⟨#[]⟩, false⟩).length = l.length + 1 + 1) := by show _ = _; rw [HV.out]; simp
  have hW3 : Wr w w3 v (.slice (some ⟨g3, 0, none⟩) (l.length + 1 + 1) cap3) := KD.out.wr.trans (Wr.app hgrow3 (by simpa using hwh3)).alloc
  have hO3 : Out w3 B (.slice (some ⟨g3, 0, none⟩) (l.length + 1 + 1) cap3) (l ++ valW ⟨2, 0, ⟨#[]⟩, false⟩) := by
    rw [HV.out, List.append_cons]
    refine Out.of hown3 (by simp) ?_
    rw [show (Value.int .u8 0) = Value.int .u8 ((UInt8.ofNat 0).toNat : Int) from rfl, bytes_snoc]
    rfl
  have HO3 := Lib.hid hO3
  have HW3 := Lib.hid hW3
  clear hown3 hgrow3 hwh3 hlt3 hO3 hW3
  go_wp2
  go_ret
  exact ⟨some ⟨g3, 0, none⟩, cap3, by rw [HLE.out]; rfl, by rw [HLE.out]; exact HO3.out, by rw [HLE.out]; exact HW3.out⟩
set_option maxRecDepth 100000 in
theorem appendValue_2 (s : ByteArray) (hs : s.toList ≠ []) (hs2 : s.size ≤ 256) (B : Nat) (v : Value) (l : List UInt8) (w : World) (hB : B ≤ w.heap.size) (hown : Out w B v l) (hl : l.length ≤ 40000000) :
    Calls Tryd.prog 79 #[v, .agg #[.int .i64 2, .int .i64 0, .string s, .bool false]] w (Wrote B w v (l ++ valW ⟨2, 0, s, false⟩)) := by
  obtain ⟨i0, hi, hz0, hz1, hz2⟩ := info_parts infoByte
  have hv : veq 2 0 s false 2 0 ⟨#[]⟩ false = false := by
    have : (⟨#[]⟩ : ByteArray).toList = [] := toList_mk []
    simp [veq, this, hs]
  have HV : Hid (valW ⟨2, 0, s, false⟩ = UInt8.ofNat 2 :: textW s.toList) := by show _ = _; simp [valW]
  clear hs
  have hm1 : l.length + 1 ≤ maxLen := by unfold maxLen; omega
  have hm2 : (l.length + 1) * 1 ≤ 140737488355328 := by omega
  have hm3 : l.length + 1 + 1 ≤ maxLen := by unfold maxLen; omega
  have hm4 : (l.length + 1 + 1) * 1 ≤ 140737488355328 := by omega
  obtain ⟨w0, hw0⟩ : ∃ x, x = w.alloc (.cells #[.int .i64 2, .int .i64 0, .string s, .bool false] 96) := ⟨_, rfl⟩
  have HW0 := Lib.hid hw0
  have HO := Lib.hid hown
  have hs0 : w0.heap.size = w.heap.size + 1 := by rw [hw0]; simp
  have HO0 : Hid (w0.ownsRow B 5 1 v l.length (Lib.byteCells l)) := by show World.ownsRow _ _ _ _ _ _ _; rw [hw0]; exact World.ownsRow.alloc hown _
  have HB0 : Hid (∀ o : Obj, B ≤ (w0.alloc o).heap.size) := fun o => by simp; omega
  have HF0 : Hid (Four w0 w.heap.size ⟨2, 0, s, false⟩) := by show Four _ _ _; rw [hw0]; exact Four.new w ⟨2, 0, s, false⟩
  obtain ⟨c0, c1, c2, c3, z0, z1, z2, z3⟩ := HF0.out
  have hgl : w.heap.size < w0.heap.size := by omega
  clear hw0 hown hs0
  go_enter Tryd.func79, Tryd.ntmps79
  go_upto_region 1 with fail
  rw [← HW0.out]
  go_upto_region 2 with (at_builtin; refine wpList_append_lies _ rfl _ _ 25 rfl B 5 i0 (.int .u8 0) 1 1 Tryd.underlying25 hi hz0 hz1 hz2 rfl (by decide) _ _ _ rfl (HO0.out.alloc _) ⟨w0.heap.size, 0, none⟩ 1 1 [.int .u8 2] rfl rfl (lit_cells _ _ _) (by intro u hu; simp at hu; subst hu; rfl) (by decide) hm1 hm2 (HB0.out _) (w0.heap.size + 1) (by simp) ?_; intro g2 cap2 w2 hown2 hgrow2 hwh2 hlt2)
  have hkd : Kd B w l 2 0 s false w.heap.size v (.slice (some ⟨g2, 0, none⟩) (l.length + 1) cap2) w2 := Kd.of HW0.out hB HO.out hown2 hgrow2 hwh2
  have KD := Lib.hid hkd
  obtain ⟨g, hg⟩ : ∃ g, g = w.heap.size := ⟨_, rfl⟩
  rw [← hg] at KD ⊢
  have HG := Lib.hid hg
  clear hkd hown2 hgrow2 hwh2 hlt2 c0 c1 c2 c3 z0 z1 z2 z3 hgl hg
  obtain ⟨c0, c1, c2, c3, z0, z1, z2, z3⟩ := KD.out.four
  have hsz := KD.out.sz
  have HBX : Hid (∀ o : Obj, B ≤ (w2.alloc o).heap.size) := fun o => by simp; omega
  have HOK : Hid (Out w2 B (.slice (some ⟨g2, 0, none⟩) (l.length + 1) cap2) (l ++ [UInt8.ofNat 2])) := Out.of KD.out.own (by simp) rfl
  go_wp2_with fail
  refine (appendText_any s B (.slice (some ⟨g2, 0, none⟩) (l.length + 1) cap2) (l ++ [UInt8.ofNat 2]) w2 hsz HOK.out (by simp; omega) (by omega)).mono ?_
  rintro e w3 ⟨p3, c3, rfl, hO3, hB3⟩
  rw [List.append_assoc, List.singleton_append, ← show valW _ = _ from HV.out] at hO3 hB3 ⊢
  have HO3 := Lib.hid hO3
  have HW3 := Lib.hid (KD.out.wr.trans hB3)
  clear hB3 hO3
  go_wp2
  go_ret
  exact ⟨p3, c3, by first | rfl | simp, HO3.out, HW3.out⟩
set_option maxRecDepth 100000 in
theorem appendValue_30  (B : Nat) (v : Value) (l : List UInt8) (w : World) (hB : B ≤ w.heap.size) (hown : Out w B v l) (hl : l.length ≤ 40000000) :
    Calls Tryd.prog 79 #[v, .agg #[.int .i64 3, .int .i64 0, .string ⟨#[]⟩, .bool false]] w (Wrote B w v (l ++ valW ⟨3, 0, ⟨#[]⟩, false⟩)) := by
  obtain ⟨i0, hi, hz0, hz1, hz2⟩ := info_parts infoByte
  have hv : veq 3 0 ⟨#[]⟩ false 3 0 ⟨#[]⟩ false = true := by simp [veq]
  have HV : Hid (valW ⟨3, 0, ⟨#[]⟩, false⟩ = UInt8.ofNat 3 :: [UInt8.ofNat 0]) := by show _ = _; simp [valW]
  have hm1 : l.length + 1 ≤ maxLen := by unfold maxLen; omega
  have hm2 : (l.length + 1) * 1 ≤ 140737488355328 := by omega
  have hm3 : l.length + 1 + 1 ≤ maxLen := by unfold maxLen; omega
  have hm4 : (l.length + 1 + 1) * 1 ≤ 140737488355328 := by omega
  obtain ⟨w0, hw0⟩ : ∃ x, x = w.alloc (.cells #[.int .i64 3, .int .i64 0, .string ⟨#[]⟩, .bool false] 96) := ⟨_, rfl⟩
  have HW0 := Lib.hid hw0
  have HO := Lib.hid hown
  have hs0 : w0.heap.size = w.heap.size + 1 := by rw [hw0]; simp
  have HO0 : Hid (w0.ownsRow B 5 1 v l.length (Lib.byteCells l)) := by show World.ownsRow _ _ _ _ _ _ _; rw [hw0]; exact World.ownsRow.alloc hown _
  have HB0 : Hid (∀ o : Obj, B ≤ (w0.alloc o).heap.size) := fun o => by simp; omega
  have HF0 : Hid (Four w0 w.heap.size ⟨3, 0, ⟨#[]⟩, false⟩) := by show Four _ _ _; rw [hw0]; exact Four.new w ⟨3, 0, ⟨#[]⟩, false⟩
  obtain ⟨c0, c1, c2, c3, z0, z1, z2, z3⟩ := HF0.out
  have hgl : w.heap.size < w0.heap.size := by omega
  clear hw0 hown hs0
  go_enter Tryd.func79, Tryd.ntmps79
  go_upto_region 1 with fail
  rw [← HW0.out]
  go_upto_region 2 with (at_builtin; refine wpList_append_lies _ rfl _ _ 25 rfl B 5 i0 (.int .u8 0) 1 1 Tryd.underlying25 hi hz0 hz1 hz2 rfl (by decide) _ _ _ rfl (HO0.out.alloc _) ⟨w0.heap.size, 0, none⟩ 1 1 [.int .u8 3] rfl rfl (lit_cells _ _ _) (by intro u hu; simp at hu; subst hu; rfl) (by decide) hm1 hm2 (HB0.out _) (w0.heap.size + 1) (by simp) ?_; intro g2 cap2 w2 hown2 hgrow2 hwh2 hlt2)
  have hkd : Kd B w l 3 0 ⟨#[]⟩ false w.heap.size v (.slice (some ⟨g2, 0, none⟩) (l.length + 1) cap2) w2 := Kd.of HW0.out hB HO.out hown2 hgrow2 hwh2
  have KD := Lib.hid hkd
  obtain ⟨g, hg⟩ : ∃ g, g = w.heap.size := ⟨_, rfl⟩
  rw [← hg] at KD ⊢
  have HG := Lib.hid hg
  clear hkd hown2 hgrow2 hwh2 hlt2 c0 c1 c2 c3 z0 z1 z2 z3 hgl hg
  obtain ⟨c0, c1, c2, c3, z0, z1, z2, z3⟩ := KD.out.four
  have hsz := KD.out.sz
  have HBX : Hid (∀ o : Obj, B ≤ (w2.alloc o).heap.size) := fun o => by simp; omega
  go_wp2_with (at_builtin; refine wpList_append_lies _ rfl _ _ 25 rfl B 5 i0 (.int .u8 0) 1 1 Tryd.underlying25 hi hz0 hz1 hz2 rfl (by decide) _ _ _ rfl (KD.out.own.alloc _) ⟨w2.heap.size, 0, none⟩ 1 1 [.int .u8 0] rfl rfl (lit_cells _ _ _) (by intro u hu; simp at hu; subst hu; rfl) (by decide) hm3 hm4 (HBX.out _) (w2.heap.size + 1) (by simp) ?_)
  intro g3 cap3 w3 hown3 hgrow3 hwh3 hlt3
  have HLE : Hid ((l ++ valW ⟨3, 0, ⟨#[]⟩, false⟩).length = l.length + 1 + 1) := by show _ = _; rw [HV.out]; simp
  have hW3 : Wr w w3 v (.slice (some ⟨g3, 0, none⟩) (l.length + 1 + 1) cap3) := KD.out.wr.trans (Wr.app hgrow3 (by simpa using hwh3)).alloc
  have hO3 : Out w3 B (.slice (some ⟨g3, 0, none⟩) (l.length + 1 + 1) cap3) (l ++ valW ⟨3, 0, ⟨#[]⟩, false⟩) := by
    rw [HV.out, List.append_cons]
    refine Out.of hown3 (by simp) ?_
    rw [show (Value.int .u8 0) = Value.int .u8 ((UInt8.ofNat 0).toNat : Int) from rfl, bytes_snoc]
    rfl
  have HO3 := Lib.hid hO3
  have HW3 := Lib.hid hW3
  clear hown3 hgrow3 hwh3 hlt3 hO3 hW3
  go_wp2
  go_ret
  exact ⟨some ⟨g3, 0, none⟩, cap3, by rw [HLE.out]; rfl, by rw [HLE.out]; exact HO3.out, by rw [HLE.out]; exact HW3.out⟩
set_option maxRecDepth 100000 in
theorem appendValue_3  (B : Nat) (v : Value) (l : List UInt8) (w : World) (hB : B ≤ w.heap.size) (hown : Out w B v l) (hl : l.length ≤ 40000000) :
    Calls Tryd.prog 79 #[v, .agg #[.int .i64 3, .int .i64 0, .string ⟨#[]⟩, .bool true]] w (Wrote B w v (l ++ valW ⟨3, 0, ⟨#[]⟩, true⟩)) := by
  obtain ⟨i0, hi, hz0, hz1, hz2⟩ := info_parts infoByte
  have hv : veq 3 0 ⟨#[]⟩ true 3 0 ⟨#[]⟩ false = false := by simp [veq]
  have HV : Hid (valW ⟨3, 0, ⟨#[]⟩, true⟩ = UInt8.ofNat 3 :: [UInt8.ofNat 1]) := by show _ = _; simp [valW]
  have hm1 : l.length + 1 ≤ maxLen := by unfold maxLen; omega
  have hm2 : (l.length + 1) * 1 ≤ 140737488355328 := by omega
  have hm3 : l.length + 1 + 1 ≤ maxLen := by unfold maxLen; omega
  have hm4 : (l.length + 1 + 1) * 1 ≤ 140737488355328 := by omega
  obtain ⟨w0, hw0⟩ : ∃ x, x = w.alloc (.cells #[.int .i64 3, .int .i64 0, .string ⟨#[]⟩, .bool true] 96) := ⟨_, rfl⟩
  have HW0 := Lib.hid hw0
  have HO := Lib.hid hown
  have hs0 : w0.heap.size = w.heap.size + 1 := by rw [hw0]; simp
  have HO0 : Hid (w0.ownsRow B 5 1 v l.length (Lib.byteCells l)) := by show World.ownsRow _ _ _ _ _ _ _; rw [hw0]; exact World.ownsRow.alloc hown _
  have HB0 : Hid (∀ o : Obj, B ≤ (w0.alloc o).heap.size) := fun o => by simp; omega
  have HF0 : Hid (Four w0 w.heap.size ⟨3, 0, ⟨#[]⟩, true⟩) := by show Four _ _ _; rw [hw0]; exact Four.new w ⟨3, 0, ⟨#[]⟩, true⟩
  obtain ⟨c0, c1, c2, c3, z0, z1, z2, z3⟩ := HF0.out
  have hgl : w.heap.size < w0.heap.size := by omega
  clear hw0 hown hs0
  go_enter Tryd.func79, Tryd.ntmps79
  go_upto_region 1 with fail
  rw [← HW0.out]
  go_upto_region 2 with (at_builtin; refine wpList_append_lies _ rfl _ _ 25 rfl B 5 i0 (.int .u8 0) 1 1 Tryd.underlying25 hi hz0 hz1 hz2 rfl (by decide) _ _ _ rfl (HO0.out.alloc _) ⟨w0.heap.size, 0, none⟩ 1 1 [.int .u8 3] rfl rfl (lit_cells _ _ _) (by intro u hu; simp at hu; subst hu; rfl) (by decide) hm1 hm2 (HB0.out _) (w0.heap.size + 1) (by simp) ?_; intro g2 cap2 w2 hown2 hgrow2 hwh2 hlt2)
  have hkd : Kd B w l 3 0 ⟨#[]⟩ true w.heap.size v (.slice (some ⟨g2, 0, none⟩) (l.length + 1) cap2) w2 := Kd.of HW0.out hB HO.out hown2 hgrow2 hwh2
  have KD := Lib.hid hkd
  obtain ⟨g, hg⟩ : ∃ g, g = w.heap.size := ⟨_, rfl⟩
  rw [← hg] at KD ⊢
  have HG := Lib.hid hg
  clear hkd hown2 hgrow2 hwh2 hlt2 c0 c1 c2 c3 z0 z1 z2 z3 hgl hg
  obtain ⟨c0, c1, c2, c3, z0, z1, z2, z3⟩ := KD.out.four
  have hsz := KD.out.sz
  have HBX : Hid (∀ o : Obj, B ≤ (w2.alloc o).heap.size) := fun o => by simp; omega
  go_wp2_with (at_builtin; refine wpList_append_lies _ rfl _ _ 25 rfl B 5 i0 (.int .u8 0) 1 1 Tryd.underlying25 hi hz0 hz1 hz2 rfl (by decide) _ _ _ rfl (KD.out.own.alloc _) ⟨w2.heap.size, 0, none⟩ 1 1 [.int .u8 1] rfl rfl (lit_cells _ _ _) (by intro u hu; simp at hu; subst hu; rfl) (by decide) hm3 hm4 (HBX.out _) (w2.heap.size + 1) (by simp) ?_)
  intro g3 cap3 w3 hown3 hgrow3 hwh3 hlt3
  have HLE : Hid ((l ++ valW ⟨3, 0, ⟨#[]⟩, true⟩).length = l.length + 1 + 1) := by show _ = _; rw [HV.out]; simp
  have hW3 : Wr w w3 v (.slice (some ⟨g3, 0, none⟩) (l.length + 1 + 1) cap3) := KD.out.wr.trans (Wr.app hgrow3 (by simpa using hwh3)).alloc
  have hO3 : Out w3 B (.slice (some ⟨g3, 0, none⟩) (l.length + 1 + 1) cap3) (l ++ valW ⟨3, 0, ⟨#[]⟩, true⟩) := by
    rw [HV.out, List.append_cons]
    refine Out.of hown3 (by simp) ?_
    rw [show (Value.int .u8 1) = Value.int .u8 ((UInt8.ofNat 1).toNat : Int) from rfl, bytes_snoc]
    rfl
  have HO3 := Lib.hid hO3
  have HW3 := Lib.hid hW3
  clear hown3 hgrow3 hwh3 hlt3 hO3 hW3
  go_wp2
  go_ret
  exact ⟨some ⟨g3, 0, none⟩, cap3, by rw [HLE.out]; rfl, by rw [HLE.out]; exact HO3.out, by rw [HLE.out]; exact HW3.out⟩
theorem appendValue_any (v : V4) (hv : Ok4 v) (hi : In4 v) (B : Nat) (o : Value) (l : List UInt8) (w : World) (hB : B ≤ w.heap.size) (hown : Out w B o l) (hl : l.length ≤ 40000000) :
    Calls Tryd.prog 79 #[o, agg4 v] w (Wrote B w o (l ++ valW v)) := by
  rcases ok_cases hv with ⟨n, rfl⟩ | ⟨s, hs, rfl⟩ | ⟨b, rfl⟩
  · by_cases hn : n = 0
    · subst hn
      exact appendValue_10 B o l w hB hown hl
    · exact appendValue_1 n hn hi B o l w hB hown hl
  · by_cases h0 : s.toList = []
    · have e : s = ⟨#[]⟩ := by rw [← mk_toList s, h0]
      subst e
      exact appendValue_20 B o l w hB hown hl
    · exact appendValue_2 s h0 hs B o l w hB hown hl
  · cases b
    · exact appendValue_30 B o l w hB hown hl
    · exact appendValue_3 B o l w hB hown hl
end Go.Proofs.YtlinpkmfjkcoiaaDoor
