/- The scanner of package token: what lies where; rest, fail, take. -/
import Derived.Test.YtdafnkfnaknoiaaDoorC3
import Derived.WalkKit
import Derived.OwnWalk
import Derived.LoopN
import Derived.LoopTactic
import Derived.WalkSpells
import Derived.WalkLawsBesides
import Derived.Lib.Hide
import Derived.Lib.PathFns
import Derived.BigQuiet
import Derived.Deep.QuietTactic
import Derived.Deep.RegionWith
import Derived.Deep.RegionHeld3
namespace Go.Proofs.YtdafnkfnaknoiaaDoor
open Go Go.RowKit
set_option maxHeartbeats 1000000
set_option linter.unusedVariables false
set_option linter.unusedSimpArgs false
theorem lt_of_cell {w : World} {b : Nat} {o : Nat} {v : Value} (h : w.cell? ⟨b, o, none⟩ = some v) : b < w.heap.size := by
  rcases Nat.lt_or_ge b w.heap.size with hlt | hge
  · exact hlt
  · simp [World.cell?, Array.getElem?_eq_none hge] at h
/-- the reader at R -/
structure Rd (w : World) (R : Nat) (T : ByteArray) (a : Nat) (f : Int) : Prop where
  c0 : w.cell? ⟨R, 0, none⟩ = some (.string T)
  c1 : w.cell? ⟨R, 1, none⟩ = some (.int .i64 a)
  c2 : w.cell? ⟨R, 2, none⟩ = some (.int .i64 f)
  z1 : w.frozen? ⟨R, 1, none⟩ = false
  z2 : w.frozen? ⟨R, 2, none⟩ = false
theorem Rd.lt {w : World} {R : Nat} {T : ByteArray} {a : Nat} {f : Int} (h : Rd w R T a f) : R < w.heap.size := lt_of_cell h.c0
theorem Rd.below {w w' : World} {R : Nat} {T : ByteArray} {a : Nat} {f : Int} (h : Rd w R T a f) (hb : Below w.heap.size w w') : Rd w' R T a f :=
  ⟨(hb.cell (p := ⟨R, 0, none⟩) h.lt).trans h.c0, (hb.cell (p := ⟨R, 1, none⟩) h.lt).trans h.c1, (hb.cell (p := ⟨R, 2, none⟩) h.lt).trans h.c2, (hb.frozen (p := ⟨R, 1, none⟩) h.lt).trans h.z1, (hb.frozen (p := ⟨R, 2, none⟩) h.lt).trans h.z2⟩
theorem Rd.at {w : World} {R : Nat} {T : ByteArray} {a : Nat} {f : Int} (h : Rd w R T a f) (a' : Nat) : Rd (w.setCell ⟨R, 1, none⟩ (.int .i64 a')) R T a' f :=
  ⟨by simp [go_sem, h.c0], by simp [go_sem, h.c1], by simp [go_sem, h.c2], by simp [go_sem, h.z1], by simp [go_sem, h.z2]⟩
theorem Rd.bad {w : World} {R : Nat} {T : ByteArray} {a : Nat} {f : Int} (h : Rd w R T a f) (f' : Int) : Rd (w.setCell ⟨R, 2, none⟩ (.int .i64 f')) R T a f' :=
  ⟨by simp [go_sem, h.c0], by simp [go_sem, h.c1], by simp [go_sem, h.c2], by simp [go_sem, h.z1], by simp [go_sem, h.z2]⟩
theorem grown_of_below {w w' : World} (hb : Below w.heap.size w w') (row : Option Nat) : w.grownBy w' row := ⟨hb.os, hb.tape, hb.output, hb.size, fun i hi _ => hb.block i hi⟩
theorem grown_set (w : World) (R j : Nat) (u : Value) : w.grownBy (w.setCell ⟨R, j, none⟩ u) (some R) :=
  ⟨rfl, rfl, rfl, by simp, fun k _ hk => heap_setCell_other w ⟨R, j, none⟩ k u (fun e => hk (by simp [e]))⟩
/-- behind a call of the reader's -/
structure Aft (w w' : World) (R : Nat) (T : ByteArray) (a' : Nat) (f' : Int) : Prop where
  g : w.grownBy w' (some R)
  r : Rd w' R T a' f'
theorem Aft.refl {w : World} {R : Nat} {T : ByteArray} {a : Nat} {f : Int} (h : Rd w R T a f) : Aft w w R T a f := ⟨World.grownBy.refl w _, h⟩
theorem Aft.trans {w w1 w2 : World} {R : Nat} {T : ByteArray} {a1 a2 : Nat} {f1 f2 : Int} (h : Aft w w1 R T a1 f1) (k : Aft w1 w2 R T a2 f2) : Aft w w2 R T a2 f2 :=
  ⟨⟨k.g.os.trans h.g.os, k.g.tape.trans h.g.tape, k.g.output.trans h.g.output, Nat.le_trans h.g.size k.g.size, fun i hi hr => (k.g.block i (Nat.lt_of_lt_of_le hi h.g.size) hr).trans (h.g.block i hi hr)⟩, k.r⟩
theorem Aft.below {w w1 w2 : World} {R : Nat} {T : ByteArray} {a1 : Nat} {f1 : Int} (h : Aft w w1 R T a1 f1) (hb : Below w1.heap.size w1 w2) : Aft w w2 R T a1 f1 := h.trans ⟨grown_of_below hb _, h.r.below hb⟩
theorem Aft.drewN {w w1 : World} {R : Nat} {T : ByteArray} {a1 : Nat} {f1 : Int} (h : Aft w w1 R T a1 f1) (n : Nat) : Aft w (w1.drewN n) R T a1 f1 := ⟨⟨h.g.os, h.g.tape, h.g.output, h.g.size, h.g.block⟩, ⟨h.r.c0, h.r.c1, h.r.c2, h.r.z1, h.r.z2⟩⟩
theorem Aft.drew {w w1 : World} {R : Nat} {T : ByteArray} {a1 : Nat} {f1 : Int} (h : Aft w w1 R T a1 f1) : Aft w w1.drew R T a1 f1 := ⟨⟨h.g.os, h.g.tape, h.g.output, h.g.size, h.g.block⟩, ⟨h.r.c0, h.r.c1, h.r.c2, h.r.z1, h.r.z2⟩⟩
theorem Aft.at {w w1 : World} {R : Nat} {T : ByteArray} {a1 : Nat} {f1 : Int} (h : Aft w w1 R T a1 f1) (a' : Nat) : Aft w (w1.setCell ⟨R, 1, none⟩ (.int .i64 a')) R T a' f1 := h.trans ⟨grown_set _ _ _ _, h.r.at a'⟩
theorem Aft.bad {w w1 : World} {R : Nat} {T : ByteArray} {a1 : Nat} {f1 : Int} (h : Aft w w1 R T a1 f1) (f' : Int) : Aft w (w1.setCell ⟨R, 2, none⟩ (.int .i64 f')) R T a1 f' := h.trans ⟨grown_set _ _ _ _, h.r.bad f'⟩
theorem bytes_ext' {a b : ByteArray} (h : a.data.toList = b.data.toList) : a = b := by
  cases a with | mk x => cases b with | mk y => exact congrArg ByteArray.mk (Array.toList_inj.1 h)
/-- what is left of a text -/
def restS (t : ByteArray) (a : Nat) : ByteArray := t.extract a t.size
theorem restS_list (t : ByteArray) (a : Nat) : (restS t a).data.toList = t.data.toList.drop a := by
  unfold restS
  rw [ByteArray.data_extract]
  simp only [Array.toList_extract, List.extract_eq_take_drop]
  exact List.take_of_length_le (by simp)
theorem restS_size (t : ByteArray) (a : Nat) : (restS t a).size = t.size - a := by
  have := congrArg List.length (restS_list t a)
  simpa using this
theorem rest_any (R : Nat) (T : ByteArray) (a : Nat) (f : Int) (w : World) (h : Rd w R T a f) (ha : a ≤ T.size) (hT : T.size ≤ 4096) : Calls Tryd.prog 36 #[.pointer (some ⟨R, 0, none⟩)] w fun e w' => e = .returned (.string (restS T a)) ∧ ∃ n, w' = w.drewN n := by
  obtain ⟨c0, c1, c2, z1, z2⟩ := h
  have v0 : (0 : Int) ≤ (a : Int) := by omega
  have v1 : (a : Int) ≤ (T.size : Int) := by omega
  go_enter Tryd.func36, Tryd.ntmps36
  go_wp2
  go_quiet (fail)
  go_wp2
  go_ret
  exact ⟨rfl, _, rfl⟩
theorem fail_any (R : Nat) (T : ByteArray) (a : Nat) (f : Int) (a' : Nat) (E : Int) (w : World) (h : Rd w R T a f) : Calls Tryd.prog 37 #[.pointer (some ⟨R, 0, none⟩), .int .i64 a', .int .i64 E] w fun e w' => e = .returned (.tuple #[]) ∧ Aft w w' R T a' E := by
  have HA := Lib.hid (((Aft.refl h).at a').bad E)
  obtain ⟨c0, c1, c2, z1, z2⟩ := h
  go_enter Tryd.func37, Tryd.ntmps37
  go_wp2
  first | go_end0 | refine bodyPost_ret (v := .tuple #[]) (by simp [results, Tryd.results37, go_sem]) rfl ?_
  exact ⟨rfl, HA.out⟩
theorem take_any (R : Nat) (T : ByteArray) (a : Nat) (f : Int) (n : Nat) (w : World) (h : Rd w R T a f) (ha : a + n ≤ T.size) (hT : T.size ≤ 4096) : Calls Tryd.prog 34 #[.pointer (some ⟨R, 0, none⟩), .int .i64 n] w fun e w' => e = .returned (.string ⟨((T.data.toList.drop a).take n).toArray⟩) ∧ Aft w w' R T (a + n) f := by
  have HR := Lib.hid h
  obtain ⟨P, hP⟩ : ∃ P : ByteArray, P = (restS T a).extract 0 n := ⟨_, rfl⟩
  have HP : Hid (P = ⟨((T.data.toList.drop a).take n).toArray⟩) := by
    show _ = _
    rw [hP]
    apply bytes_ext'
    rw [ByteArray.data_extract]
    simp only [Array.toList_extract, List.extract_eq_take_drop, restS_list]
    simp
  have HX : Hid (P = (restS T a).extract 0 n) := hP
  have hs : P.size ≤ 281474976710656 := by
    rw [hP]
    have := restS_size T a
    simp
    omega
  have HS := Lib.hid hs
  have hz := restS_size T a
  have v0 : n ≤ (restS T a).size := by omega
  have HC : Hid (∀ w, Calls Tryd.prog 51 #[.string ((restS T a).extract 0 n)] w fun e w' => e = .returned (.string ⟨((T.data.toList.drop a).take n).toArray⟩) ∧ Below w.heap.size w w') := by
    intro wx
    rw [← HX.out, ← HP.out]
    exact clone_any P wx HS.out
  have v2 : (a : Int) + (n : Int) ≤ 4096 := by omega
  have v3 : (0 : Int) ≤ (a : Int) + (n : Int) := by omega
  clear hP hs hz
  go_enter Tryd.func34, Tryd.ntmps34
  go_wp2_with (first | (go_at_call 36; refine (rest_any R T a f _ HR.out (by omega) hT).mono ?_; rintro e w1 ⟨rfl, k1, hw1⟩; have HW1 := Lib.hid hw1; clear hw1) | (go_at_call 51; refine (HC.out _).mono ?_; rintro e w2 ⟨rfl, hb2⟩; have HA2 := Lib.hid ((by rw [HW1.out]; exact (Aft.refl HR.out).drewN k1 : Aft w w1 R T a f).below hb2); have hA2 := HA2.out; obtain ⟨-, ⟨d0, d1, d2, y1, y2⟩⟩ := hA2))
  go_ret
  refine ⟨rfl, ?_⟩
  have := HA2.out.at (a + n)
  rw [Int.natCast_add] at this
  exact this
end Go.Proofs.YtdafnkfnaknoiaaDoor
