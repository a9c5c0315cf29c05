/- Contract of the document's own answer's Encode. -/
import Derived.Test.YtlinpkmfjkcoiaaDoorT3
import Derived.Test.YtlinpkmfjkcoiaaDoorJ1
import Derived.LoopTactic
namespace Go.Proofs.YtlinpkmfjkcoiaaDoor
open Go Go.RowKit
set_option maxHeartbeats 4000000
set_option linter.unusedVariables false
set_option linter.unusedSimpArgs false
theorem Out.base {w : World} {B B' : Nat} {v : Value} {l : List UInt8} (h : Out w B v l) (hB : B' ≤ B) : Out w B' v l := by
  refine ⟨h.1, ?_⟩
  rcases h.2 with h2 | ⟨g, cap, cur, e, hg, h2⟩
  · exact .inl h2
  · exact .inr ⟨g, cap, cur, e, Nat.le_trans hB hg, h2⟩
theorem Out.below {w w' : World} {B : Nat} {v : Value} {l : List UInt8} (h : Out w B v l) (hb : Below w.heap.size w w') : Out w' B v l := by
  have hg : w.grownBy w' none := ⟨hb.os, hb.tape, hb.output, hb.size, fun i hi _ => hb.block i hi⟩
  refine World.ownsRow.kept h hg ?_
  rcases h.2 with ⟨rfl, _⟩ | ⟨g, cap, cur, rfl, hgB, _⟩
  · exact .inl rfl
  · refine .inr fun e => ?_
    simp only [Value.ownBlock] at e
    cases e
/-- a row of one's own, and a boxed value beside it -/
structure St (B : Nat) (w0 : World) (g : Nat) (u : V4) (w : World) (v : Value) (l : List UInt8) : Prop where
  out : Out w B v l
  bl : Below B w0 w
  sz : B ≤ w.heap.size
  four : Four w g u
  ne : some g ≠ v.ownBlock
theorem Four.grown {w w' : World} {b : Nat} {v : V4} (h : Four w b v) {row : Option Nat} (hg : w.grownBy w' row) (hr : some b ≠ row) : Four w' b v := by
  have e := hg.block b (lt_of_cell h.c0) hr
  exact ⟨(World.cell?_of_block (a := ⟨b, 0, none⟩) e).trans h.c0, (World.cell?_of_block (a := ⟨b, 1, none⟩) e).trans h.c1, (World.cell?_of_block (a := ⟨b, 2, none⟩) e).trans h.c2, (World.cell?_of_block (a := ⟨b, 3, none⟩) e).trans h.c3,
    (World.frozen?_of_block (a := ⟨b, 0, none⟩) e).trans h.z0, (World.frozen?_of_block (a := ⟨b, 1, none⟩) e).trans h.z1, (World.frozen?_of_block (a := ⟨b, 2, none⟩) e).trans h.z2, (World.frozen?_of_block (a := ⟨b, 3, none⟩) e).trans h.z3⟩
theorem St.new {B : Nat} {w0 w : World} {v : Value} {l : List UInt8} (u : V4) (ho : Out w B v l) (hb : Below B w0 w) (hs : B ≤ w.heap.size) : St B w0 w.heap.size u (w.alloc (.cells #[.int .i64 u.k, .int .i64 u.n, .string u.s, .bool u.b] 96)) v l :=
  ⟨World.ownsRow.alloc ho _, hb.alloc hs _, by simp; omega, Four.new w u, fun e => by have := (World.ownsRow.lt ho _ e.symm).2; omega⟩
theorem St.below {B : Nat} {w0 w w' : World} {g : Nat} {u : V4} {v : Value} {l : List UInt8} (h : St B w0 g u w v l) (hb : Below w.heap.size w w') : St B w0 g u w' v l :=
  ⟨h.out.below hb, h.bl.trans (hb.mono h.sz), Nat.le_trans h.sz hb.size, h.four.below hb, h.ne⟩
theorem St.wr {B : Nat} {w0 w w' : World} {g : Nat} {u : V4} {v v' : Value} {l l' : List UInt8} (h : St B w0 g u w v l) (hw : Wr w w' v v') (ho : Out w' B v' l') : St B w0 g u w' v' l' := by
  have hbB := hw.below h.out h.sz
  refine ⟨ho, h.bl.trans hbB, Nat.le_trans h.sz hbB.size, h.four.grown hw.g h.ne, ?_⟩
  rcases hw.loc with e | e
  · rw [e]; exact h.ne
  · intro e2
    have := e g e2.symm
    have := lt_of_cell h.four.c0
    omega
/-- a byte is appended -/
theorem St.byte {B : Nat} {w0 w w2 : World} {g : Nat} {u : V4} {v : Value} {l : List UInt8} (b : UInt8) {x : Int} {g' n cap : Nat} {o : Obj} (h : St B w0 g u w v l) (hx : x = (b.toNat : Int)) 
    (hown : w2.ownsRow B 5 1 (.slice (some ⟨g', 0, none⟩) n cap) n (Lib.byteCells l ++ [.int .u8 x])) (hn : n = l.length + 1) (hg : (w.alloc o).grownBy w2 v.ownBlock) (hw : v.ownBlock = some g' ∨ g' = w.heap.size + 1) : St B w0 g u w2 (.slice (some ⟨g', 0, none⟩) n cap) (l ++ [b]) := by
  subst hn hx
  rw [bytes_snoc] at hown
  exact h.wr (Wr.app hg (by simpa using hw)).alloc (Out.of hown (by simp) rfl)
theorem valW1 (n : Int) : valW ⟨1, n, ⟨#[]⟩, false⟩ = [UInt8.ofNat 1] ++ put n := by simp [valW]
theorem valW2 (s : ByteArray) : valW ⟨2, 0, s, false⟩ = [UInt8.ofNat 2] ++ put (s.size : Int) ++ s.toList := by simp [valW, textW, size_toList]
theorem valW3 (b : Bool) : valW ⟨3, 0, ⟨#[]⟩, b⟩ = [UInt8.ofNat 3] ++ [if b then 1 else 0] := by cases b <;> simp [valW]
set_option maxRecDepth 100000 in
theorem refEncode_any (ty : ByteArray) (tm : Int) (htm : I64 tm) (vl : List V4) (p : Option Addr) (c : Nat) (w : World) (hr : ValRow w p vl) (hm : vl.length ≤ maxLen) (hi : ∀ v ∈ vl, In4 v) :
    Calls Tryd.prog 27 #[.agg #[.string ty, .int .i64 tm, .slice p vl.length c]] w (EncIs w ⟨ty, tm, vl⟩) := by
  obtain ⟨i0, hi5, hz0, hz1, hz2⟩ := info_parts infoByte
  obtain ⟨n, hn⟩ : ∃ n, n = vl.length := ⟨_, rfl⟩
  rw [← hn] at hm ⊢
  have HNL := Lib.hid hn
  have HI := Lib.hid hi
  unfold maxLen at hm
  obtain ⟨w0, hw0⟩ : ∃ x, x = w.alloc (.cells #[.string ty, .int .i64 tm, .slice p n c] 24) := ⟨_, rfl⟩
  have hb0 : Below w.heap.size w w0 := by rw [hw0]; exact (Below.refl _ _).alloc (Nat.le_refl _) _
  have HB0 := Lib.hid hb0
  have HR0 := Lib.hid (hr.below hb0)
  have T0 : Hid (Three w0 w.heap.size ty tm (.slice p n c)) := by show Three _ _ _ _ _; rw [hw0]; exact Three.new w ty tm p n c
  have HW := Lib.hid hw0
  clear hn hr hw0 hb0 hi
  obtain ⟨E, hE⟩ : ∃ E, E = w.heap.size := ⟨_, rfl⟩
  rw [← hE] at T0
  have HEE := Lib.hid hE
  obtain ⟨c0, c1, c2, z0, z1, z2⟩ := T0.out
  cases hname : nameL ty.toList
  · have HE : Hid (encF ty.toList tm vl = 20) := by show _ = _; unfold encF; rw [if_pos hname]
    have HNM := Lib.hid hname
    clear hname
    go_enter Tryd.func27, Tryd.ntmps27
    go_upto_region 1 with fail
    rw [← HW.out, ← hE]
    clear hE
    go_wp2_with fail
    refine (name_r _ _).mono ?_
    rw [HNM.out]
    rintro e w1 ⟨rfl, hb1⟩
    have HB1 : Hid (Below w.heap.size w w1) := HB0.out.trans (hb1.mono HB0.out.size)
    clear c0 c1 c2 z0 z1 z2 hb1
    go_wp2
    first | go_ret2 | skip
    exact ⟨HB1.out, .inr ⟨by rw [HE.out]; decide, by rw [HE.out]; rfl⟩⟩
  · have HNM := Lib.hid hname
    clear hname
    go_enter Tryd.func27, Tryd.ntmps27
    go_upto_region 1 with fail
    rw [← HW.out, ← hE]
    clear hE
    go_wp2_with fail
    refine (name_r _ _).mono ?_
    rw [HNM.out]
    rintro e w1 ⟨rfl, hb1⟩
    have HB01 : Hid (Below w0.heap.size w0 w1) := hb1
    have T1 := Lib.hid (T0.out.below hb1)
    clear c0 c1 c2 z0 z1 z2 hb1
    obtain ⟨c0, c1, c2, z0, z1, z2⟩ := T1.out
    by_cases ht : tm < 0 ∨ 4611686018427387904 < tm
    · have HE : Hid (encF ty.toList tm vl = 23) := by show _ = _; unfold encF; rw [if_neg (by rw [HNM.out]; decide), if_pos ht]
      have HB1 : Hid (Below w.heap.size w w1) := HB0.out.trans (HB01.out.mono HB0.out.size)
      rcases ht with ht | ht
      · have dt : decide (tm < 0) = true := by simpa using ht
        go_wp2
        first | go_ret2 | skip
        exact ⟨HB1.out, .inr ⟨by rw [HE.out]; decide, by rw [HE.out]; rfl⟩⟩
      · have dt : decide (tm < 0) = false := by simp; omega
        have dt2 : decide (4611686018427387904 < tm) = true := by simpa using ht
        go_wp2
        first | go_ret2 | skip
        exact ⟨HB1.out, .inr ⟨by rw [HE.out]; decide, by rw [HE.out]; rfl⟩⟩
    · have dt : decide (tm < 0) = false := by simp; omega
      have dt2 : decide (4611686018427387904 < tm) = false := by simp; omega
      by_cases h16 : n ≤ 16
      · have d16 : decide ((16 : Int) < (n : Int)) = false := by simp; omega
        have HE : Hid (encF ty.toList tm vl = if vl.all okB then 0 else 12) := by show _ = _; unfold encF; rw [if_neg (by rw [HNM.out]; decide), if_neg ht, if_neg (by rw [← HNL.out]; omega)]
        have HNLE := Lib.hid (name_len HNM.out)
        have HTS : Hid (I64 (ty.size : Int)) := by have := HNLE.out; rw [size_toList] at this; show I64 _; unfold I64; omega
        have HTM := Lib.hid htm
        have HNI : Hid (I64 (n : Int)) := by show I64 _; unfold I64; omega
        clear ht htm
        -- the bytes before the values
        go_wp2_with fail
        refine (refPut_any _ HTS.out _).mono ?_
        obtain ⟨l1, hl1⟩ : ∃ l1, l1 = put (ty.size : Int) := ⟨_, rfl⟩
        rw [← hl1]
        have L1 : Hid (l1.length ≤ 10) := by rw [hl1]; exact put_len HTS.out
        have E1 := Lib.hid hl1
        clear hl1
        rintro e w2 ⟨p2, k2, rfl, ho2, hw2⟩
        have hb2 : Below w1.heap.size w1 w2 := hw2.below (Out.nil _ _) (Nat.le_refl _)
        have HB2 : Hid (Below w0.heap.size w0 w2) := HB01.out.trans (hb2.mono HB01.out.size)
        have HO2 : Hid (Out w2 w0.heap.size (.slice p2 l1.length k2) l1) := ho2.base HB01.out.size
        have T2 := Lib.hid (T0.out.below HB2.out)
        have hs2 : w0.heap.size ≤ w2.heap.size := HB2.out.size
        clear c0 c1 c2 z0 z1 z2 ho2 hw2 hb2
        obtain ⟨c0, c1, c2, z0, z1, z2⟩ := T2.out
        have hm1 : l1.length + ty.size ≤ maxLen := by have := L1.out; have := HNLE.out; rw [size_toList] at this; unfold maxLen; omega
        have hm2 : l1.length + ty.size ≤ 140737488355328 := by have := L1.out; have := HNLE.out; rw [size_toList] at this; omega
        go_wp2_with (at_builtin; refine wpList_str rfl _ _ rfl w0.heap.size i0 hi5 hz0 hz1 hz2 _ _ rfl HO2.out ty rfl hm1 hm2 hs2 ?_)
        intro p3 k3 w3 hO3 hW3
        have HB3 : Hid (Below w0.heap.size w0 w3) := HB2.out.trans (hW3.below HO2.out hs2)
        have T3 := Lib.hid (T0.out.below HB3.out)
        obtain ⟨l2, hl2⟩ : ∃ l2, l2 = l1 ++ ty.toList := ⟨_, rfl⟩
        obtain ⟨m2, hmm2⟩ : ∃ m2, m2 = l1.length + ty.size := ⟨_, rfl⟩
        have HM2 : Hid (m2 = l2.length) := by show _ = _; rw [hmm2, hl2, List.length_append, size_toList]
        have L2 : Hid (l2.length ≤ 42) := by have := L1.out; have := HNLE.out; show _ ≤ _; rw [hl2, List.length_append]; omega
        have E2 := Lib.hid hl2
        rw [← hl2, ← hmm2] at hO3
        rw [← hmm2]
        have HO3 := Lib.hid hO3
        have hs3 : w0.heap.size ≤ w3.heap.size := HB3.out.size
        clear c0 c1 c2 z0 z1 z2 hO3 hW3 hl2 hmm2 hm1 hm2 hs2
        obtain ⟨c0, c1, c2, z0, z1, z2⟩ := T3.out
        go_wp2_with fail
        refine (refPut_any _ HTM.out _).mono ?_
        rintro e w4 ⟨p4, k4, rfl, ho4, hw4⟩
        have hb4 : Below w3.heap.size w3 w4 := hw4.below (Out.nil _ _) (Nat.le_refl _)
        have HB4 : Hid (Below w0.heap.size w0 w4) := HB3.out.trans (hb4.mono HB3.out.size)
        have HO4 := Lib.hid (HO3.out.below hb4)
        have HQ4 := Lib.hid ho4.inn.1
        have HC4 := Lib.hid ho4.nilcap
        have hs4 : w0.heap.size ≤ w4.heap.size := HB4.out.size
        have hm3 : l2.length + (put tm).length ≤ maxLen := by have := L2.out; have := put_len HTM.out; unfold maxLen; omega
        have hm4 : l2.length + (put tm).length ≤ 140737488355328 := by have := L2.out; have := put_len HTM.out; omega
        have HLX : Hid ((put tm).length ≤ 10) := put_len HTM.out
        clear c0 c1 c2 z0 z1 z2 ho4 hw4 hb4
        go_wp2_with (at_builtin; refine wpList_cat rfl _ _ rfl w0.heap.size i0 hi5 hz0 hz1 hz2 _ l2 rfl HO4.out p4 k4 (put tm).length (put tm) rfl rfl HQ4.out HC4.out hm3 hm4 hs4 _ rfl ?_)
        intro p5 k5 w5 hO5 hW5
        have HB5 : Hid (Below w0.heap.size w0 w5) := HB4.out.trans (hW5.below HO4.out hs4)
        have T5 := Lib.hid (T0.out.below HB5.out)
        obtain ⟨l3, hl3⟩ : ∃ l3, l3 = l2 ++ put tm := ⟨_, rfl⟩
        obtain ⟨m3, hmm3⟩ : ∃ m3, m3 = l2.length + (put tm).length := ⟨_, rfl⟩
        have HM3 : Hid (m3 = l3.length) := by show _ = _; rw [hmm3, hl3, List.length_append]
        have L3 : Hid (l3.length ≤ 52) := by have := L2.out; have := HLX.out; show _ ≤ _; rw [hl3, List.length_append]; omega
        have E3 := Lib.hid hl3
        rw [← hl3, ← hmm3] at hO5
        rw [← hmm3]
        have HO5 := Lib.hid hO5
        have hs5 : w0.heap.size ≤ w5.heap.size := HB5.out.size
        clear hO5 hW5 hl3 hmm3 hm3 hm4 hs4
        obtain ⟨c0, c1, c2, z0, z1, z2⟩ := T5.out
        go_wp2_with fail
        refine (refPut_any _ HNI.out _).mono ?_
        rintro e w6 ⟨p6, k6, rfl, ho6, hw6⟩
        have hb6 : Below w5.heap.size w5 w6 := hw6.below (Out.nil _ _) (Nat.le_refl _)
        have HB6 : Hid (Below w0.heap.size w0 w6) := HB5.out.trans (hb6.mono HB5.out.size)
        have HO6 := Lib.hid (HO5.out.below hb6)
        have HQ6 := Lib.hid ho6.inn.1
        have HC6 := Lib.hid ho6.nilcap
        have hs6 : w0.heap.size ≤ w6.heap.size := HB6.out.size
        have hm5 : l3.length + (put (n : Int)).length ≤ maxLen := by have := L3.out; have := put_len HNI.out; unfold maxLen; omega
        have hm6 : l3.length + (put (n : Int)).length ≤ 140737488355328 := by have := L3.out; have := put_len HNI.out; omega
        have HLY : Hid ((put (n : Int)).length ≤ 10) := put_len HNI.out
        clear c0 c1 c2 z0 z1 z2 ho6 hw6 hb6
        go_wp2_with (at_builtin; refine wpList_cat rfl _ _ rfl w0.heap.size i0 hi5 hz0 hz1 hz2 _ l3 rfl HO6.out p6 k6 (put (n : Int)).length (put (n : Int)) rfl rfl HQ6.out HC6.out hm5 hm6 hs6 _ rfl ?_)
        intro p7 k7 w7 hO7 hW7
        have HB7 : Hid (Below w0.heap.size w0 w7) := HB6.out.trans (hW7.below HO6.out hs6)
        obtain ⟨l4, hl4⟩ : ∃ l4, l4 = l3 ++ put (n : Int) := ⟨_, rfl⟩
        obtain ⟨m4, hmm4⟩ : ∃ m4, m4 = l3.length + (put (n : Int)).length := ⟨_, rfl⟩
        have HM4 : Hid (m4 = l4.length) := by show _ = _; rw [hmm4, hl4, List.length_append]
        have L4 : Hid (l4.length ≤ 62) := by have := L3.out; have := HLY.out; show _ ≤ _; rw [hl4, List.length_append]; omega
        have E4 : Hid (l4 ++ valsW vl = evtW ⟨ty, tm, vl⟩) := by
          show _ = _
          rw [hl4, E3.out, E2.out, E1.out]
          unfold evtW textW
          rw [size_toList, ← show n = _ from HNL.out]
          simp only [List.append_assoc]
        rw [← hl4, ← hmm4] at hO7
        rw [← hmm4]
        have HO7 := Lib.hid hO7
        clear hO7 hW7 hl4 hmm4 hm5 hm6 hs6 hs5 hs3
        go_wp2
        go_loopw [4, 5] (fun o iv wr => ∃ (k : Nat) (q : Option Addr) (m d : Nat), k ≤ n ∧ iv = .int .i64 k ∧ o = .slice q m d ∧ Below w0.heap.size w0 wr ∧ m = (l4 ++ valsW (vl.take k)).length ∧ Out wr w0.heap.size (.slice q m d) (l4 ++ valsW (vl.take k)) ∧ (vl.take k).all okB = true) (fun _ iv _ => n - (intOf iv).toNat)
        case atStart => exact ⟨0, p7, m4, k7, Nat.zero_le _, rfl, rfl, HB7.out, by simp [valsW]; exact HM4.out, by simpa [valsW] using HO7.out, rfl⟩
        case round =>
          obtain ⟨k, q, m, d, hk, rfl, rfl, hb, hml, ho, hall⟩ := hrel
          have HBL := Lib.hid hb
          have HOL := Lib.hid ho
          have HA := Lib.hid hall
          have HML := Lib.hid hml
          have TL := Lib.hid (T0.out.below hb)
          have hsl : w0.heap.size ≤ wr.heap.size := hb.size
          obtain ⟨lk, hlk⟩ : ∃ lk, lk = l4 ++ valsW (vl.take k) := ⟨_, rfl⟩
          rw [← hlk] at HOL HML
          have HLK := Lib.hid hlk
          have LK : Hid (lk.length ≤ 5000) := by
            have h2 : (vl.take k).length ≤ 16 := by rw [List.length_take]; omega
            have h1 := valsW_len (vl := vl.take k) fun x hx => ⟨List.all_eq_true.1 hall x hx, HI.out x (List.mem_of_mem_take hx)⟩
            have h3 := L4.out
            show _ ≤ _
            rw [hlk, List.length_append]
            have : 300 * (vl.take k).length ≤ 300 * 16 := Nat.mul_le_mul_left _ h2
            omega
          clear hb ho hall hml hlk
          obtain ⟨c0, c1, c2, z0, z1, z2⟩ := TL.out
          by_cases hlt : k < n
          · have hkl : k < vl.length := by rw [← HNL.out]; exact hlt
            have HKL := Lib.hid hkl
            obtain ⟨u, b, o, hu, rfl, d0, d1, d2, d3⟩ := (HR0.out.below HBL.out).nth hkl
            have HU := Lib.hid hu
            have HUI : Hid (In4 u) := by show In4 u; rw [hu]; exact HI.out _ (List.getElem_mem hkl)
            have HTK : Hid (valsW (vl.take (k + 1)) = valsW (vl.take k) ++ valW u) := by show _ = _; rw [hu]; exact valsW_take hkl
            have HAT : Hid ((vl.take (k + 1)).all okB = okB u) := by show _ = _; rw [all_take hkl, HA.out, ← hu]; rfl
            have HS0 := Lib.hid (St.new u HOL.out HBL.out hsl)
            obtain ⟨g, hg⟩ : ∃ g, g = wr.heap.size := ⟨_, rfl⟩
            obtain ⟨uk, un, us, ub⟩ := u
            go_upto_region 15 with fail
            obtain ⟨wa, hwa⟩ : ∃ x, x = wr.alloc (.cells #[.int .i64 uk, .int .i64 un, .string us, .bool ub] 96) := ⟨_, rfl⟩
            rw [← hwa] at HS0 ⊢
            rw [← hg] at HS0 ⊢
            clear hwa hg hu d0 d1 d2 d3 c0 c1 c2 z0 z1 z2
            obtain ⟨y0, y1, y2, y3, yz0, yz1, yz2, yz3⟩ := HS0.out.four
            go_wp2_with fail
            refine (valid_r _ _ _ _ _).mono ?_
            rintro e wv ⟨rfl, hbv⟩
            have HS1 := Lib.hid (HS0.out.below hbv)
            clear hbv y0 y1 y2 y3 yz0 yz1 yz2 yz3
            cases hok : valid uk un us ub
            · have HOK := Lib.hid hok
              go_wp2
              first | go_ret2 | skip
              have HEE2 : encF ty.toList tm vl = 12 := by
                rw [HE.out, not_all HKL.out (by rw [← show _ = _ from HU.out]; exact HOK.out)]
                rfl
              exact ⟨HB0.out.trans (HS1.out.bl.mono HB0.out.size), .inr ⟨by show encF ty.toList tm vl ≠ 0; rw [HEE2]; decide, by show _ = Ending.returned (.tuple #[.slice none 0 0, .int .i64 (encF ty.toList tm vl)]); rw [HEE2]; rfl⟩⟩
            · have HOK := Lib.hid hok
              rcases ok_cases (v := ⟨uk, un, us, ub⟩) hok with ⟨nv, h⟩ | ⟨sv, hs256, h⟩ | ⟨bv, h⟩
              · cases h
                have hma2 : lk.length + 1 ≤ maxLen := by have := LK.out; unfold maxLen; omega
                have hmb2 : (lk.length + 1) * 1 ≤ 140737488355328 := by have := LK.out; omega
                obtain ⟨y0, y1, y2, y3, yz0, yz1, yz2, yz3⟩ := HS1.out.four
                have hsz2 := HS1.out.sz
                have HBX2 : Hid (∀ o : Obj, w0.heap.size ≤ (wv.alloc o).heap.size) := fun o => by simp; omega
                go_wp2_with (at_builtin; refine wpList_append_lies _ rfl _ _ 25 rfl w0.heap.size 5 i0 (.int .u8 0) 1 1 Tryd.underlying25 hi5 hz0 hz1 hz2 rfl (by decide) _ _ _ rfl (World.ownsRow.alloc HS1.out.out _) ⟨wv.heap.size, 0, none⟩ 1 1 [.int .u8 1] rfl rfl (lit_cells _ _ _) (by intro u hu; simp at hu; subst hu; rfl) (by decide) hma2 hmb2 (HBX2.out _) (wv.heap.size + 1) (by simp) ?_)
                intro g2 cap2 w2 hown2 hgrow2 hwh2 hlt2
                have HS2 := Lib.hid (HS1.out.byte (UInt8.ofNat 1) rfl hown2 rfl hgrow2 hwh2)
                obtain ⟨lb, hlb⟩ : ∃ lb, lb = lk ++ [UInt8.ofNat 1] := ⟨_, rfl⟩
                obtain ⟨mb, hmb⟩ : ∃ mb, mb = lk.length + 1 := ⟨_, rfl⟩
                have HMB : Hid (mb = lb.length) := by show _ = _; rw [hmb, hlb]; simp
                have LK2 : Hid (lb.length ≤ 5001) := by have := LK.out; have := HMB.out; show _ ≤ _; omega
                rw [← hlb, ← hmb] at HS2
                rw [← hmb]
                have HLB := Lib.hid hlb
                clear y0 y1 y2 y3 yz0 yz1 yz2 yz3
                clear hown2 hgrow2 hwh2 hlt2 hlb hmb
                obtain ⟨y0, y1, y2, y3, yz0, yz1, yz2, yz3⟩ := HS2.out.four
                go_wp2_with fail
                refine (refPut_any _ HUI.out _).mono ?_
                rintro e w3 ⟨p8, k8, rfl, ho8, hw8⟩
                have hb8 : Below w2.heap.size w2 w3 := hw8.below (Out.nil _ _) (Nat.le_refl _)
                have HS3 := Lib.hid (HS2.out.below hb8)
                have HQ8 := Lib.hid ho8.inn.1
                have HC8 := Lib.hid ho8.nilcap
                have HPL : Hid ((put un).length ≤ 10) := put_len HUI.out
                have hma3 : lb.length + (put un).length ≤ maxLen := by have := LK2.out; have := HPL.out; unfold maxLen; omega
                have hmb3 : lb.length + (put un).length ≤ 140737488355328 := by have := LK2.out; have := HPL.out; omega
                have hsz3 := HS3.out.sz
                clear y0 y1 y2 y3 yz0 yz1 yz2 yz3
                clear ho8 hw8 hb8
                go_wp2_with (at_builtin; refine wpList_cat rfl _ _ rfl w0.heap.size i0 hi5 hz0 hz1 hz2 _ lb rfl HS3.out.out p8 k8 (put un).length (put un) rfl rfl HQ8.out HC8.out hma3 hmb3 hsz3 _ rfl ?_)
                intro q4 d4 w4 hO4 hW4
                have HS4 := Lib.hid (HS3.out.wr hW4 hO4)
                have HEQ : Hid (l4 ++ valsW (vl.take (k + 1)) = lb ++ put un) := by show _ = _; rw [HTK.out, valW1, HLB.out, HLK.out]; simp only [List.append_assoc]
                have HML9 : Hid (lb.length + (put un).length = (l4 ++ valsW (vl.take (k + 1))).length) := by show _ = _; rw [HEQ.out]; simp only [List.length_append, List.length_singleton, size_toList]; try omega
                clear hO4 hW4
                go_wp2
                go_roundw
                case rel => exact ⟨k + 1, q4, _, d4, by omega, by go_num, by first | rfl | simp, HS4.out.bl, HML9.out, by rw [HEQ.out]; exact HS4.out.out, by rw [HAT.out]; exact HOK.out⟩
                case measure => simp [intOf]; omega
              · cases h
                have hma2 : lk.length + 1 ≤ maxLen := by have := LK.out; unfold maxLen; omega
                have hmb2 : (lk.length + 1) * 1 ≤ 140737488355328 := by have := LK.out; omega
                obtain ⟨y0, y1, y2, y3, yz0, yz1, yz2, yz3⟩ := HS1.out.four
                have hsz2 := HS1.out.sz
                have HBX2 : Hid (∀ o : Obj, w0.heap.size ≤ (wv.alloc o).heap.size) := fun o => by simp; omega
                go_wp2_with (at_builtin; refine wpList_append_lies _ rfl _ _ 25 rfl w0.heap.size 5 i0 (.int .u8 0) 1 1 Tryd.underlying25 hi5 hz0 hz1 hz2 rfl (by decide) _ _ _ rfl (World.ownsRow.alloc HS1.out.out _) ⟨wv.heap.size, 0, none⟩ 1 1 [.int .u8 2] rfl rfl (lit_cells _ _ _) (by intro u hu; simp at hu; subst hu; rfl) (by decide) hma2 hmb2 (HBX2.out _) (wv.heap.size + 1) (by simp) ?_)
                intro g2 cap2 w2 hown2 hgrow2 hwh2 hlt2
                have HS2 := Lib.hid (HS1.out.byte (UInt8.ofNat 2) rfl hown2 rfl hgrow2 hwh2)
                obtain ⟨lb, hlb⟩ : ∃ lb, lb = lk ++ [UInt8.ofNat 2] := ⟨_, rfl⟩
                obtain ⟨mb, hmb⟩ : ∃ mb, mb = lk.length + 1 := ⟨_, rfl⟩
                have HMB : Hid (mb = lb.length) := by show _ = _; rw [hmb, hlb]; simp
                have LK2 : Hid (lb.length ≤ 5001) := by have := LK.out; have := HMB.out; show _ ≤ _; omega
                rw [← hlb, ← hmb] at HS2
                rw [← hmb]
                have HLB := Lib.hid hlb
                clear y0 y1 y2 y3 yz0 yz1 yz2 yz3
                clear hown2 hgrow2 hwh2 hlt2 hlb hmb
                obtain ⟨y0, y1, y2, y3, yz0, yz1, yz2, yz3⟩ := HS2.out.four
                have HSI : Hid (I64 (us.size : Int)) := by show I64 _; unfold I64; omega
                go_wp2_with fail
                refine (refPut_any _ HSI.out _).mono ?_
                rintro e w3 ⟨p8, k8, rfl, ho8, hw8⟩
                have hb8 : Below w2.heap.size w2 w3 := hw8.below (Out.nil _ _) (Nat.le_refl _)
                have HS3 := Lib.hid (HS2.out.below hb8)
                have HQ8 := Lib.hid ho8.inn.1
                have HC8 := Lib.hid ho8.nilcap
                have HPL : Hid ((put (us.size : Int)).length ≤ 10) := put_len HSI.out
                have hma3 : lb.length + (put (us.size : Int)).length ≤ maxLen := by have := LK2.out; have := HPL.out; unfold maxLen; omega
                have hmb3 : lb.length + (put (us.size : Int)).length ≤ 140737488355328 := by have := LK2.out; have := HPL.out; omega
                have hsz3 := HS3.out.sz
                clear y0 y1 y2 y3 yz0 yz1 yz2 yz3
                clear ho8 hw8 hb8
                go_wp2_with (at_builtin; refine wpList_cat rfl _ _ rfl w0.heap.size i0 hi5 hz0 hz1 hz2 _ lb rfl HS3.out.out p8 k8 (put (us.size : Int)).length (put (us.size : Int)) rfl rfl HQ8.out HC8.out hma3 hmb3 hsz3 _ rfl ?_)
                intro q4 d4 w4 hO4 hW4
                have HS4 := Lib.hid (HS3.out.wr hW4 hO4)
                obtain ⟨l5, hl5⟩ : ∃ l5, l5 = lb ++ put (us.size : Int) := ⟨_, rfl⟩
                obtain ⟨m5, hm5⟩ : ∃ m5, m5 = lb.length + (put (us.size : Int)).length := ⟨_, rfl⟩
                rw [← hm5, ← hl5] at HS4
                rw [← hm5]
                have HL5 := Lib.hid hl5
                have HM5 := Lib.hid hm5
                have LK4 : Hid (l5.length ≤ 5011) := by have := LK2.out; have := HPL.out; show _ ≤ _; rw [hl5, List.length_append]; omega
                have hma4 : l5.length + us.size ≤ maxLen := by have := LK4.out; unfold maxLen; omega
                have hmb4 : l5.length + us.size ≤ 140737488355328 := by have := LK4.out; omega
                have hsz4 := HS4.out.sz
                clear hO4 hW4 hm5 hl5 hma3 hmb3
                obtain ⟨y0, y1, y2, y3, yz0, yz1, yz2, yz3⟩ := HS4.out.four
                go_wp2_with (at_builtin; refine wpList_str rfl _ _ rfl w0.heap.size i0 hi5 hz0 hz1 hz2 _ l5 rfl HS4.out.out us rfl hma4 hmb4 hsz4 ?_)
                intro q5 d5 w5' hO5 hW5
                have HS5 := Lib.hid (HS4.out.wr hW5 hO5)
                have HEQ : Hid (l4 ++ valsW (vl.take (k + 1)) = l5 ++ us.toList) := by show _ = _; rw [HTK.out, valW2, HL5.out, HLB.out, HLK.out]; simp only [List.append_assoc]
                have HML9 : Hid (l5.length + us.size = (l4 ++ valsW (vl.take (k + 1))).length) := by show _ = _; rw [HEQ.out]; simp only [List.length_append, List.length_singleton, size_toList]; try omega
                clear hO5 hW5
                clear y0 y1 y2 y3 yz0 yz1 yz2 yz3
                go_wp2
                go_roundw
                case rel => exact ⟨k + 1, q5, _, d5, by omega, by go_num, by first | rfl | simp, HS5.out.bl, HML9.out, by rw [HEQ.out]; exact HS5.out.out, by rw [HAT.out]; exact HOK.out⟩
                case measure => simp [intOf]; omega
              · cases h
                have hma2 : lk.length + 1 ≤ maxLen := by have := LK.out; unfold maxLen; omega
                have hmb2 : (lk.length + 1) * 1 ≤ 140737488355328 := by have := LK.out; omega
                obtain ⟨y0, y1, y2, y3, yz0, yz1, yz2, yz3⟩ := HS1.out.four
                have hsz2 := HS1.out.sz
                have HBX2 : Hid (∀ o : Obj, w0.heap.size ≤ (wv.alloc o).heap.size) := fun o => by simp; omega
                go_wp2_with (at_builtin; refine wpList_append_lies _ rfl _ _ 25 rfl w0.heap.size 5 i0 (.int .u8 0) 1 1 Tryd.underlying25 hi5 hz0 hz1 hz2 rfl (by decide) _ _ _ rfl (World.ownsRow.alloc HS1.out.out _) ⟨wv.heap.size, 0, none⟩ 1 1 [.int .u8 3] rfl rfl (lit_cells _ _ _) (by intro u hu; simp at hu; subst hu; rfl) (by decide) hma2 hmb2 (HBX2.out _) (wv.heap.size + 1) (by simp) ?_)
                intro g2 cap2 w2 hown2 hgrow2 hwh2 hlt2
                have HS2 := Lib.hid (HS1.out.byte (UInt8.ofNat 3) rfl hown2 rfl hgrow2 hwh2)
                obtain ⟨lb, hlb⟩ : ∃ lb, lb = lk ++ [UInt8.ofNat 3] := ⟨_, rfl⟩
                obtain ⟨mb, hmb⟩ : ∃ mb, mb = lk.length + 1 := ⟨_, rfl⟩
                have HMB : Hid (mb = lb.length) := by show _ = _; rw [hmb, hlb]; simp
                have LK2 : Hid (lb.length ≤ 5001) := by have := LK.out; have := HMB.out; show _ ≤ _; omega
                rw [← hlb, ← hmb] at HS2
                rw [← hmb]
                have HLB := Lib.hid hlb
                clear y0 y1 y2 y3 yz0 yz1 yz2 yz3
                clear hown2 hgrow2 hwh2 hlt2 hlb hmb
                obtain ⟨y0, y1, y2, y3, yz0, yz1, yz2, yz3⟩ := HS2.out.four
                cases ub
                · have hma3 : lb.length + 1 ≤ maxLen := by have := LK2.out; unfold maxLen; omega
                  have hmb3 : (lb.length + 1) * 1 ≤ 140737488355328 := by have := LK2.out; omega
                  have hsz3 := HS2.out.sz
                  have HBX3 : Hid (∀ o : Obj, w0.heap.size ≤ (w2.alloc o).heap.size) := fun o => by simp; omega
                  go_wp2_with (at_builtin; refine wpList_append_lies _ rfl _ _ 25 rfl w0.heap.size 5 i0 (.int .u8 0) 1 1 Tryd.underlying25 hi5 hz0 hz1 hz2 rfl (by decide) _ _ _ rfl (World.ownsRow.alloc HS2.out.out _) ⟨w2.heap.size, 0, none⟩ 1 1 [.int .u8 0] rfl rfl (lit_cells _ _ _) (by intro u hu; simp at hu; subst hu; rfl) (by decide) hma3 hmb3 (HBX3.out _) (w2.heap.size + 1) (by simp) ?_)
                  intro g3 cap3 w3 hown3 hgrow3 hwh3 hlt3
                  have HS3 := Lib.hid (HS2.out.byte 0 rfl hown3 rfl hgrow3 hwh3)
                  have HEQ : Hid (l4 ++ valsW (vl.take (k + 1)) = lb ++ [0]) := by show _ = _; rw [HTK.out, valW3, HLB.out, HLK.out]; simp
                  have HML9 : Hid (lb.length + 1 = (l4 ++ valsW (vl.take (k + 1))).length) := by show _ = _; rw [HEQ.out]; simp only [List.length_append, List.length_singleton, size_toList]; try omega
                  clear hown3 hgrow3 hwh3 hlt3
                  clear y0 y1 y2 y3 yz0 yz1 yz2 yz3
                  go_wp2
                  go_roundw
                  case rel => exact ⟨k + 1, _, _, _, by omega, by go_num, by first | rfl | simp, HS3.out.bl, HML9.out, by rw [HEQ.out]; exact HS3.out.out, by rw [HAT.out]; exact HOK.out⟩
                  case measure => simp [intOf]; omega
                · have hma3 : lb.length + 1 ≤ maxLen := by have := LK2.out; unfold maxLen; omega
                  have hmb3 : (lb.length + 1) * 1 ≤ 140737488355328 := by have := LK2.out; omega
                  have hsz3 := HS2.out.sz
                  have HBX3 : Hid (∀ o : Obj, w0.heap.size ≤ (w2.alloc o).heap.size) := fun o => by simp; omega
                  go_wp2_with (at_builtin; refine wpList_append_lies _ rfl _ _ 25 rfl w0.heap.size 5 i0 (.int .u8 0) 1 1 Tryd.underlying25 hi5 hz0 hz1 hz2 rfl (by decide) _ _ _ rfl (World.ownsRow.alloc HS2.out.out _) ⟨w2.heap.size, 0, none⟩ 1 1 [.int .u8 1] rfl rfl (lit_cells _ _ _) (by intro u hu; simp at hu; subst hu; rfl) (by decide) hma3 hmb3 (HBX3.out _) (w2.heap.size + 1) (by simp) ?_)
                  intro g3 cap3 w3 hown3 hgrow3 hwh3 hlt3
                  have HS3 := Lib.hid (HS2.out.byte 1 rfl hown3 rfl hgrow3 hwh3)
                  have HEQ : Hid (l4 ++ valsW (vl.take (k + 1)) = lb ++ [1]) := by show _ = _; rw [HTK.out, valW3, HLB.out, HLK.out]; simp
                  have HML9 : Hid (lb.length + 1 = (l4 ++ valsW (vl.take (k + 1))).length) := by show _ = _; rw [HEQ.out]; simp only [List.length_append, List.length_singleton, size_toList]; try omega
                  clear hown3 hgrow3 hwh3 hlt3
                  clear y0 y1 y2 y3 yz0 yz1 yz2 yz3
                  go_wp2
                  go_roundw
                  case rel => exact ⟨k + 1, _, _, _, by omega, by go_num, by first | rfl | simp, HS3.out.bl, HML9.out, by rw [HEQ.out]; exact HS3.out.out, by rw [HAT.out]; exact HOK.out⟩
                  case measure => simp [intOf]; omega
          · have hkk : k = n := by omega
            have HKK := Lib.hid hkk
            clear hkk
            have hall : vl.all okB = true := by
              have h1 := HA.out
              rw [HKK.out, HNL.out, List.take_of_length_le (Nat.le_refl _)] at h1
              exact h1
            have HF0 : Hid (encF ty.toList tm vl = 0) := by show _ = _; rw [HE.out, hall]; rfl
            have HEV : Hid (lk = evtW ⟨ty, tm, vl⟩) := by
              show _ = _
              rw [HLK.out, HKK.out, HNL.out, List.take_of_length_le (Nat.le_refl _), E4.out]
            have HOKE := Lib.hid (ok_of HF0.out HI.out)
            clear hall
            go_wp2
            first | go_ret2 | skip
            refine ⟨HB0.out.trans (HBL.out.mono HB0.out.size), .inl ⟨HF0.out, HOKE.out, q, d, ?_, ?_⟩⟩
            · rw [← show lk = _ from HEV.out, ← show m = _ from HML.out]; rfl
            · rw [← show lk = _ from HEV.out, ← show m = _ from HML.out]; exact HOL.out.base HB0.out.size
      · have d16 : decide ((16 : Int) < (n : Int)) = true := by simp; omega
        have HE : Hid (encF ty.toList tm vl = 2) := by show _ = _; unfold encF; rw [if_neg (by rw [HNM.out]; decide), if_neg ht, if_pos (by rw [← HNL.out]; omega)]
        have HB1 : Hid (Below w.heap.size w w1) := HB0.out.trans (HB01.out.mono HB0.out.size)
        clear ht
        go_wp2
        first | go_ret2 | skip
        exact ⟨HB1.out, .inr ⟨by rw [HE.out]; decide, by rw [HE.out]; rfl⟩⟩
end Go.Proofs.YtlinpkmfjkcoiaaDoor
