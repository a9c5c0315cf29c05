/- Contract of package wire's appendInt. -/
import Derived.Test.YtlinpkmfjkcoiaaDoorC1
namespace Go.Proofs.YtlinpkmfjkcoiaaDoor
open Go Go.RowKit
set_option maxHeartbeats 1000000
set_option linter.unusedVariables false
set_option linter.unusedSimpArgs false
/-- a row of bytes of one's own: it reads as l -/
def Out (w : World) (B : Nat) (v : Value) (l : List UInt8) : Prop := w.ownsRow B 5 1 v l.length (Lib.byteCells l)
theorem Out.of {w : World} {B : Nat} {v : Value} {n : Nat} {xs : List Value} {l : List UInt8} (h : w.ownsRow B 5 1 v n xs) (hn : n = l.length) (hx : xs = Lib.byteCells l) : Out w B v l := by subst hn; subst hx; exact h
/-- what writes on a row of its own: only that row and new blocks have turned; it lies where it lay, or in a new block -/
structure Wr (w w' : World) (v v' : Value) : Prop where
  g : w.grownBy w' v.ownBlock
  loc : v'.ownBlock = v.ownBlock ∨ ∀ k, v'.ownBlock = some k → w.heap.size ≤ k
theorem Wr.refl (w : World) (v : Value) : Wr w w v v := ⟨World.grownBy.refl w _, .inl rfl⟩
theorem Wr.trans {w w1 w2 : World} {v v1 v2 : Value} (h : Wr w w1 v v1) (k : Wr w1 w2 v1 v2) : Wr w w2 v v2 := by
  refine ⟨⟨k.g.os.trans h.g.os, k.g.tape.trans h.g.tape, k.g.output.trans h.g.output, Nat.le_trans h.g.size k.g.size, fun i hi hr => ?_⟩, ?_⟩
  · have hi1 := Nat.lt_of_lt_of_le hi h.g.size
    refine (k.g.block i hi1 ?_).trans (h.g.block i hi hr)
    rcases h.loc with e | e
    · rw [e]; exact hr
    · intro e2
      have := e i e2.symm
      omega
  · rcases k.loc with e | e
    · rw [e]; exact h.loc
    · exact .inr fun q hq => Nat.le_trans h.g.size (e q hq)
theorem Wr.alloc {w w2 : World} {v v2 : Value} {o : Obj} (h : Wr (w.alloc o) w2 v v2) : Wr w w2 v v2 := by
  have hg := World.grownBy_alloc w o v.ownBlock
  refine ⟨⟨h.g.os.trans hg.os, h.g.tape.trans hg.tape, h.g.output.trans hg.output, Nat.le_trans hg.size h.g.size, fun i hi hr => (h.g.block i (Nat.lt_of_lt_of_le hi hg.size) hr).trans (hg.block i hi hr)⟩, ?_⟩
  rcases h.loc with e | e
  · exact .inl e
  · exact .inr fun q hq => Nat.le_trans hg.size (e q hq)
theorem Wr.app {w w2 : World} {v : Value} {g n c : Nat} (hg : w.grownBy w2 v.ownBlock) (hw : v.ownBlock = some g ∨ g = w.heap.size) : Wr w w2 v (.slice (some ⟨g, 0, none⟩) n c) := by
  refine ⟨hg, ?_⟩
  rcases hw with e | e
  · exact .inl e.symm
  · refine .inr fun k hk => ?_
    simp only [Value.ownBlock, Option.some.injEq] at hk
    omega
theorem Wr.below {w w' : World} {v v' : Value} (h : Wr w w' v v') {B n : Nat} {xs : List Value} (ho : w.ownsRow B 5 1 v n xs) (hB : B ≤ w.heap.size) : Below B w w' := (Below.refl B w).grown h.g hB (fun q hq => (ho.lt q hq).1)
def Wrote (B : Nat) (w : World) (v : Value) (l : List UInt8) (e : Ending) (w' : World) : Prop := ∃ p c, e = .returned (.slice p l.length c) ∧ Out w' B (.slice p l.length c) l ∧ Wr w w' v (.slice p l.length c)
theorem lit_cells (w : World) (l : List Value) (t : TypeId) : ∀ j u, l[j]? = some u → (w.alloc (.cells l.toArray t)).cell? ((⟨w.heap.size, 0, none⟩ : Addr).add j) = some u := by
  intro j u h
  have hb : (w.alloc (.cells l.toArray t)).heap[w.heap.size]? = some (.cells l.toArray t (0, 0)) := heap_alloc_new w _
  have e : ((⟨w.heap.size, 0, none⟩ : Addr).add j) = ⟨w.heap.size, j, none⟩ := by unfold Addr.add; split <;> simp_all
  rw [e, cell_of_row _ _ j _ _ _ hb]
  simpa using h
theorem bytes_snoc (l : List UInt8) (b : UInt8) : Lib.byteCells l ++ [.int .u8 b.toNat] = Lib.byteCells (l ++ [b]) := by simp [Lib.byteCells]
theorem u8wrap (z : Nat) : IntKind.u8.wrap (z : Int) = ((z % 256 : Nat) : Int) := by rw [IntKind.wrap_u8]; omega
theorem or128 (z : Nat) : bits .or .u8 ((z : Int) % 256) 128 = ((z % 128 + 128 : Nat) : Int) := by
  have h : ∀ x : Fin 256, bits .or .u8 ((x.val : Nat) : Int) 128 = ((x.val % 128 + 128 : Nat) : Int) := by decide +kernel
  have := h ⟨z % 256, by omega⟩
  simp only at this
  rw [show ((z : Int) % 256) = ((z % 256 : Nat) : Int) by omega, this]
  omega
theorem shr7 (z : Nat) (yk : IntKind) : Op.shift .shr .u64 (z : Int) yk 7 = pure (.int .u64 ((z / 128 : Nat) : Int)) := by
  rw [shift_shr .u64 yk _ 7 (by omega) (by decide)]
  simp
attribute [local go_sem ↓] or128 shr7
set_option maxRecDepth 100000 in
theorem appendInt_any (n : Int) (h : I64 n) (B : Nat) (v : Value) (l : List UInt8) (w : World) (hB : B ≤ w.heap.size) (hown : Out w B v l) (hl : l.length ≤ 100000000) :
    Calls Tryd.prog 45 #[v, .int .i64 n] w (Wrote B w v (l ++ put n)) := by
  obtain ⟨i0, hi, hz0, hz1, hz2⟩ := info_parts infoByte
  have HZ : Hid (zig n < 18446744073709551616) := zig_lt h.1 h.2
  have HP : Hid (put n = grp (zig n)) := rfl
  have H10 : Hid ((put n).length ≤ 10) := grp_len10 (zig_lt h.1 h.2)
  have HO := Lib.hid hown
  clear hown
  go_enter Tryd.func45, Tryd.ntmps45
  go_wp2_with (go_at_call 73; refine (unsigned_any _ h _).mono ?_; rintro e w' ⟨rfl, hw'⟩; obtain rfl := hw'.symm)
  go_loopw [0, 5] (fun u z wr => ∃ (k : Nat) (d : List UInt8), z = .int .u64 k ∧ k < 18446744073709551616 ∧ d ++ grp k = put n ∧ Out wr B u (l ++ d) ∧ Wr w wr v u) (fun _ z _ => (intOf z).toNat)
  case atStart => exact ⟨zig n, [], rfl, HZ.out, rfl, by rw [List.append_nil]; exact HO.out, Wr.refl _ _⟩
  case round =>
    obtain ⟨k, d, rfl, hk, hd, hown, hb⟩ := hrel
    have hdl : d.length ≤ 9 := by
      have h1 := congrArg List.length hd
      have h2 := H10.out
      have h3 := grp_pos k
      rw [List.length_append] at h1
      omega
    have HD := Lib.hid hd
    have HB := Lib.hid hb
    have hsz := hb.g.size
    have hBr : B ≤ wr.heap.size := by omega
    have hm1 : (l ++ d).length + 1 ≤ maxLen := by unfold maxLen; simp; omega
    have hm2 : ((l ++ d).length + 1) * 1 ≤ 140737488355328 := by simp; omega
    have HOW := Lib.hid (show wr.ownsRow B 5 1 _ (l ++ d).length (Lib.byteCells (l ++ d)) from hown)
    clear hd hb hown
    by_cases hs : k < 128
    · have hd0 : decide ((128 : Int) ≤ (k : Int)) = false := by simp; omega
      have HU : Hid ((k : Int) = ((UInt8.ofNat k).toNat : Nat)) := by show _ = _; rw [ofNat_small (by omega)]
      have HE : Hid (l ++ d ++ [UInt8.ofNat k] = l ++ put n) := by show _ = _; rw [← HD.out, grp_small hs, List.append_assoc]
      go_wp2_with (at_builtin; refine wpList_append_lies _ rfl _ _ 25 rfl B 5 i0 (.int .u8 0) 1 1 Tryd.underlying25 hi hz0 hz1 hz2 rfl (by decide) _ _ _ rfl (HOW.out.alloc _) ⟨wr.heap.size, 0, none⟩ 1 1 [.int .u8 (k : Int)] rfl rfl (lit_cells _ _ _) (by intro u hu; simp at hu; subst hu; rfl) (by decide) hm1 hm2 (by simp; omega) (wr.heap.size + 1) (by simp) ?_)
      intro g cap w2 hown2 hgrow hwhere hlt
      rw [HU.out, bytes_snoc] at hown2
      have hW2 := HB.out.trans (Wr.app (n := (l ++ put n).length) (c := cap) hgrow (by simpa using hwhere)).alloc
      have hO2 : Out w2 B (.slice (some ⟨g, 0, none⟩) (l ++ put n).length cap) (l ++ put n) := by
        have e : (l ++ put n).length = (l ++ d).length + 1 := by rw [← HE.out]; simp; omega
        rw [e, ← HE.out]
        exact Out.of (by simpa using hown2) (by simp; omega) rfl
      have HLE : Hid ((l ++ put n).length = l.length + d.length + 1) := by show _ = _; rw [← HE.out]; simp; omega
      clear hown2 hgrow hwhere
      go_wp2
      go_ret
      exact ⟨some ⟨g, 0, none⟩, cap, by rw [HLE.out]; simp <;> rfl, hO2, hW2⟩
    · have hd0 : decide ((128 : Int) ≤ (k : Int)) = true := by simp; omega
      obtain ⟨bb, hbb⟩ : ∃ bb, bb = UInt8.ofNat (k % 128 + 128) := ⟨_, rfl⟩
      have HU : Hid ((k : Int) % 128 + 128 = (bb.toNat : Nat)) := by show _ = _; rw [hbb, ofNat_small (by omega)]; omega
      have HE : Hid (d ++ [bb] ++ grp (k / 128) = put n) := by show _ = _; rw [hbb, ← HD.out, grp_big hs, List.append_assoc]; rfl
      clear hbb
      go_wp2_with (at_builtin; refine wpList_append_lies _ rfl _ _ 25 rfl B 5 i0 (.int .u8 0) 1 1 Tryd.underlying25 hi hz0 hz1 hz2 rfl (by decide) _ _ _ rfl (HOW.out.alloc _) ⟨wr.heap.size, 0, none⟩ 1 1 [.int .u8 ((k % 128 + 128 : Nat) : Int)] rfl rfl (lit_cells _ _ _) (by intro u hu; simp at hu; subst hu; rfl) (by decide) hm1 hm2 (by simp; omega) (wr.heap.size + 1) (by simp) ?_)
      intro g cap w2 hown2 hgrow hwhere hlt
      rw [HU.out, bytes_snoc] at hown2
      have HB2 : Hid (Wr w w2 v (.slice (some ⟨g, 0, none⟩) ((l ++ d).length + 1) cap)) := HB.out.trans (Wr.app hgrow (by simpa using hwhere)).alloc
      have HO2 : Hid (Out w2 B (.slice (some ⟨g, 0, none⟩) ((l ++ d).length + 1) cap) (l ++ (d ++ [bb]))) := Out.of (by simpa using hown2) (by simp; omega) (by first | rfl | rw [List.append_assoc])
      clear hown2 hgrow hwhere
      go_wp2
      go_roundw
      case rel => exact ⟨k / 128, d ++ [bb], by first | rfl | go_num, by omega, HE.out, by simpa using HO2.out, by simpa using HB2.out⟩
      case measure => simp [intOf]; omega
end Go.Proofs.YtlinpkmfjkcoiaaDoor
