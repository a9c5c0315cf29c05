/- Package csv's reader: what lies where; skip, plain, end. -/
import Derived.Lib.IndexBytes
import Derived.Lib.PathFns
import Derived.Deep.RegionHeld3
import Derived.LoopTactic
import Derived.Test.YtkficmbkoinjjaaGreatDoorI3
import Derived.Test.YtkficmbkoinjjaaGreatDoorP1
namespace Go.Proofs.YtkficmbkoinjjaaGreatDoor
open Go Go.RowKit
set_option maxHeartbeats 2000000
set_option linter.unusedVariables false
set_option linter.unusedSimpArgs false
theorem lt_of_cell {w : World} {b : Nat} {o : Nat} {v : Value} (h : w.cell? ⟨b, o, none⟩ = some v) : b < w.heap.size := by
  rcases Nat.lt_or_ge b w.heap.size with hlt | hge
  · exact hlt
  · simp [World.cell?, Array.getElem?_eq_none hge] at h
/-- the reader at R -/
structure Rd (w : World) (R : Nat) (T : ByteArray) (a : Nat) (f : Int) : Prop where
  c0 : w.cell? ⟨R, 0, none⟩ = some (.string T)
  c1 : w.cell? ⟨R, 1, none⟩ = some (.int .i64 a)
  c2 : w.cell? ⟨R, 2, none⟩ = some (.int .i64 f)
  z1 : w.frozen? ⟨R, 1, none⟩ = false
  z2 : w.frozen? ⟨R, 2, none⟩ = false
theorem Rd.lt {w : World} {R : Nat} {T : ByteArray} {a : Nat} {f : Int} (h : Rd w R T a f) : R < w.heap.size := lt_of_cell h.c0
theorem Rd.below {w w' : World} {R : Nat} {T : ByteArray} {a : Nat} {f : Int} (h : Rd w R T a f) (hb : Below w.heap.size w w') : Rd w' R T a f :=
  ⟨(hb.cell (p := ⟨R, 0, none⟩) h.lt).trans h.c0, (hb.cell (p := ⟨R, 1, none⟩) h.lt).trans h.c1, (hb.cell (p := ⟨R, 2, none⟩) h.lt).trans h.c2, (hb.frozen (p := ⟨R, 1, none⟩) h.lt).trans h.z1, (hb.frozen (p := ⟨R, 2, none⟩) h.lt).trans h.z2⟩
theorem Rd.at {w : World} {R : Nat} {T : ByteArray} {a : Nat} {f : Int} (h : Rd w R T a f) (a' : Nat) : Rd (w.setCell ⟨R, 1, none⟩ (.int .i64 a')) R T a' f :=
  ⟨by simp [go_sem, h.c0], by simp [go_sem, h.c1], by simp [go_sem, h.c2], by simp [go_sem, h.z1], by simp [go_sem, h.z2]⟩
theorem Rd.bad {w : World} {R : Nat} {T : ByteArray} {a : Nat} {f : Int} (h : Rd w R T a f) (f' : Int) : Rd (w.setCell ⟨R, 2, none⟩ (.int .i64 f')) R T a f' :=
  ⟨by simp [go_sem, h.c0], by simp [go_sem, h.c1], by simp [go_sem, h.c2], by simp [go_sem, h.z1], by simp [go_sem, h.z2]⟩
theorem grown_of_below {w w' : World} (hb : Below w.heap.size w w') (row : Option Nat) : w.grownBy w' row := ⟨hb.os, hb.tape, hb.output, hb.size, fun i hi _ => hb.block i hi⟩
theorem grown_set (w : World) (R j : Nat) (u : Value) : w.grownBy (w.setCell ⟨R, j, none⟩ u) (some R) :=
  ⟨rfl, rfl, rfl, by simp, fun k _ hk => heap_setCell_other w ⟨R, j, none⟩ k u (fun e => hk (by simp [e]))⟩
/-- behind a call of the reader's -/
structure Aft (w w' : World) (R : Nat) (T : ByteArray) (a' : Nat) (f' : Int) : Prop where
  g : w.grownBy w' (some R)
  r : Rd w' R T a' f'
theorem Aft.refl {w : World} {R : Nat} {T : ByteArray} {a : Nat} {f : Int} (h : Rd w R T a f) : Aft w w R T a f := ⟨World.grownBy.refl w _, h⟩
theorem Aft.trans {w w1 w2 : World} {R : Nat} {T : ByteArray} {a1 a2 : Nat} {f1 f2 : Int} (h : Aft w w1 R T a1 f1) (k : Aft w1 w2 R T a2 f2) : Aft w w2 R T a2 f2 :=
  ⟨⟨k.g.os.trans h.g.os, k.g.tape.trans h.g.tape, k.g.output.trans h.g.output, Nat.le_trans h.g.size k.g.size, fun i hi hr => (k.g.block i (Nat.lt_of_lt_of_le hi h.g.size) hr).trans (h.g.block i hi hr)⟩, k.r⟩
theorem Aft.below {w w1 w2 : World} {R : Nat} {T : ByteArray} {a1 : Nat} {f1 : Int} (h : Aft w w1 R T a1 f1) (hb : Below w1.heap.size w1 w2) : Aft w w2 R T a1 f1 := h.trans ⟨grown_of_below hb _, h.r.below hb⟩
theorem Aft.drewN {w w1 : World} {R : Nat} {T : ByteArray} {a1 : Nat} {f1 : Int} (h : Aft w w1 R T a1 f1) (n : Nat) : Aft w (w1.drewN n) R T a1 f1 := ⟨⟨h.g.os, h.g.tape, h.g.output, h.g.size, h.g.block⟩, ⟨h.r.c0, h.r.c1, h.r.c2, h.r.z1, h.r.z2⟩⟩
theorem Aft.drew {w w1 : World} {R : Nat} {T : ByteArray} {a1 : Nat} {f1 : Int} (h : Aft w w1 R T a1 f1) : Aft w w1.drew R T a1 f1 := ⟨⟨h.g.os, h.g.tape, h.g.output, h.g.size, h.g.block⟩, ⟨h.r.c0, h.r.c1, h.r.c2, h.r.z1, h.r.z2⟩⟩
theorem Aft.at {w w1 : World} {R : Nat} {T : ByteArray} {a1 : Nat} {f1 : Int} (h : Aft w w1 R T a1 f1) (a' : Nat) : Aft w (w1.setCell ⟨R, 1, none⟩ (.int .i64 a')) R T a' f1 := h.trans ⟨grown_set _ _ _ _, h.r.at a'⟩
theorem Aft.bad {w w1 : World} {R : Nat} {T : ByteArray} {a1 : Nat} {f1 : Int} (h : Aft w w1 R T a1 f1) (f' : Int) : Aft w (w1.setCell ⟨R, 2, none⟩ (.int .i64 f')) R T a1 f' := h.trans ⟨grown_set _ _ _ _, h.r.bad f'⟩
theorem strB_rest (T : ByteArray) (a : Nat) : (T.extract a T.size).data.toList = T.data.toList.drop a := Lib.extract_to_end T a
/-- is s there? -/
def there (T : ByteArray) (a : Nat) (s : ByteArray) : Bool := Lib.hasPrefix (T.data.toList.drop a) s.data.toList
theorem there_fits {T : ByteArray} {a : Nat} {s : ByteArray} (ha : a ≤ T.size) (h : there T a s = true) : a + s.size ≤ T.size := by
  unfold there Lib.hasPrefix at h
  have := (List.isPrefixOf_iff_prefix.1 h).length_le
  rw [List.length_drop, ← Lib.size_eq, ← Lib.size_eq] at this
  omega
set_option maxRecDepth 100000 in
theorem skip_any (R : Nat) (T : ByteArray) (a : Nat) (f : Int) (s : ByteArray) (w : World) (h : Rd w R T a f) (ha : a ≤ T.size) (hT : T.size ≤ 1000000) :
    Calls Tryz.prog 48 #[.pointer (some ⟨R, 0, none⟩), .string s] w fun e w' => e = .returned (.bool (there T a s)) ∧ Aft w w' R T (if there T a s = true then a + s.size else a) f := by
  have hfit := there_fits (s := s) ha
  have HP : Hid (∀ wx, Calls Tryz.prog 67 #[.string (T.extract a T.size), .string s] wx fun e w' => e = .returned (.bool (there T a s)) ∧ w' = wx) := fun wx => by
    have := Tryz.strings_HasPrefix (T.extract a T.size) s wx
    rw [strB_rest] at this
    exact this
  have HR := Lib.hid h
  obtain ⟨c0, c1, c2, z1, z2⟩ := h
  obtain ⟨b, hb⟩ : ∃ b, b = there T a s := ⟨_, rfl⟩
  rw [← hb] at HP hfit ⊢
  clear hb
  have v0 : (0 : Int) ≤ (a : Int) := by omega
  have v1 : (a : Int) ≤ (T.size : Int) := by omega
  cases b
  · clear hfit
    go_enter Tryz.func48, Tryz.ntmps48
    go_wp2
    go_region_with (go_at_call 67; refine (HP.out _).mono ?_; rintro e w' ⟨rfl, hw⟩; rw [hw])
    all_goals
      go_wp2
      go_ret
      exact ⟨rfl, by repeat (first | exact Aft.refl HR.out | apply Aft.drew)⟩
  · have hfit2 : a + s.size ≤ 1000000 := by have := hfit rfl; omega
    clear hfit
    go_enter Tryz.func48, Tryz.ntmps48
    go_wp2
    go_region_with (go_at_call 67; refine (HP.out _).mono ?_; rintro e w' ⟨rfl, hw⟩; rw [hw])
    all_goals
      go_wp2
      go_ret
      refine ⟨rfl, ?_⟩
      have := ((Aft.refl HR.out).at (a + s.size)).drew
      rw [Int.natCast_add] at this
      exact this
set_option maxRecDepth 100000 in
theorem clone_any (s : ByteArray) (w : World) (hs : s.size ≤ 281474976710656) : Calls Tryz.prog 69 #[.string s] w fun e w' => e = .returned (.string s) ∧ Below w.heap.size w w' := by
  have HC := Lib.hid (Tryz.stringslite_Clone s w hs)
  clear hs
  go_enter Tryz.func69, Tryz.ntmps69
  go_wp2_with fail
  refine HC.out.mono ?_
  rintro e w' ⟨rfl, hb⟩
  have HB := Lib.hid hb
  clear hb
  go_wp2
  go_ret
  exact ⟨rfl, HB.out⟩
/-- what the plain cell that begins here is -/
def plainL (T : ByteArray) (a : Nat) : Cell := (T.data.toList.drop a).take (plen (T.data.toList.drop a))
set_option maxRecDepth 100000 in
theorem plain_any (R : Nat) (T : ByteArray) (a : Nat) (f : Int) (w : World) (h : Rd w R T a f) (ha : a ≤ T.size) (hT : T.size ≤ 1000000) :
    Calls Tryz.prog 49 #[.pointer (some ⟨R, 0, none⟩)] w fun e w' => e = .returned (.string ⟨(plainL T a).toArray⟩) ∧ Aft w w' R T (a + plen (T.data.toList.drop a)) f := by
  have hsz : (T.extract a T.size).size = T.size - a := by simp
  have hlen : (T.data.toList.drop a).length = T.size - a := by rw [List.length_drop, ← Lib.size_eq]
  have hpl := plen_le (T.data.toList.drop a)
  have hpi := plen_index (T.data.toList.drop a)
  obtain ⟨n, hn⟩ : ∃ n, n = plen (T.data.toList.drop a) := ⟨_, rfl⟩
  have HN := Lib.hid hn
  obtain ⟨X, hX⟩ : ∃ X, X = T.extract a T.size := ⟨_, rfl⟩
  have HX := Lib.hid hX
  rw [← hX] at hsz
  rw [← hn] at hpl hpi ⊢
  obtain ⟨z, hz⟩ : ∃ z, z = Lib.indexAny (T.data.toList.drop a) [44, 34, 13, 10] := ⟨_, rfl⟩
  have HIX : Hid (∀ wx, Calls Tryz.prog 68 #[.string X, .string NP] wx fun e w' => e = .returned (.int .i64 z) ∧ Below wx.heap.size wx w') := fun wx => by
    have := indexAny_any X wx (by omega)
    rw [hX, strB_rest] at this
    rw [hX, hz]
    exact this
  have hcut : X.extract 0 n = ⟨(plainL T a).toArray⟩ := by
    have e : X.extract 0 n = ⟨(X.data.toList.take n).toArray⟩ := by
      apply ByteArray.ext
      apply Array.toList_inj.1
      simp
    rw [e, hX, strB_rest, hn]
    rfl
  have HCL : Hid (∀ wx, Calls Tryz.prog 69 #[.string ⟨(plainL T a).toArray⟩] wx fun e w' => e = .returned (.string ⟨(plainL T a).toArray⟩) ∧ Below wx.heap.size wx w') := fun wx => clone_any _ wx (by
    rw [← hcut, ByteArray.size_extract]
    omega)
  rw [← hz] at hpi
  rw [hlen] at hpl hpi
  have HR := Lib.hid h
  obtain ⟨c0, c1, c2, z1, z2⟩ := h
  have v0 : (0 : Int) ≤ (a : Int) := by omega
  have v1 : (a : Int) ≤ (T.size : Int) := by omega
  have hTX : T.extract a T.size = X := hX.symm
  have hXz : (X.size : Int) = (T.size : Int) - (a : Int) := by omega
  clear hlen hn hX hz
  rcases hpi with ⟨hz0, hnl⟩ | ⟨hz0, hzn⟩
  · have dz : decide (z < 0) = true := by simpa using hz0
    have hnX : (X.size : Int) = (n : Int) := by omega
    have hnX2 : n ≤ X.size := by omega
    have hn6 : n ≤ 1000000 := by omega
    clear hXz hnl hpl hsz
    go_enter Tryz.func49, Tryz.ntmps49
    go_wp2
    go_region
    have hA1 : Aft w w.drew R T a f := (Aft.refl HR.out).drew
    have HA1 := Lib.hid hA1
    go_wp2_with fail
    refine (HIX.out _).mono ?_
    rintro e w2 ⟨rfl, hb2⟩
    have HA2 := Lib.hid (HA1.out.below hb2)
    clear c0 c1 c2 z1 z2 hA1 hb2
    obtain ⟨c0, c1, c2, z1, z2⟩ := HA2.out.r
    go_wp2_with fail
    refine (HCL.out _).mono ?_
    rintro e w3 ⟨rfl, hb3⟩
    have HA3 : Hid (Aft w w3 R T (a + n) f) := by
      show Aft _ _ _ _ _ _
      have := HA2.out.at (a + n)
      rw [Int.natCast_add] at this
      exact this.below hb3
    clear hb3
    go_wp2
    go_ret
    exact ⟨rfl, HA3.out⟩
  · have dz : decide (z < 0) = false := by simp; omega
    have hn1 : n ≤ X.size := by omega
    have hn2 : (n : Int) ≤ (X.size : Int) := by omega
    have hn6 : n ≤ 1000000 := by omega
    obtain rfl := hzn
    clear hXz hpl hsz
    go_enter Tryz.func49, Tryz.ntmps49
    go_wp2
    go_region
    have hA1 : Aft w w.drew R T a f := (Aft.refl HR.out).drew
    have HA1 := Lib.hid hA1
    go_wp2_with fail
    refine (HIX.out _).mono ?_
    rintro e w2 ⟨rfl, hb2⟩
    have HA2 := Lib.hid (HA1.out.below hb2)
    clear c0 c1 c2 z1 z2 hA1 hb2
    obtain ⟨c0, c1, c2, z1, z2⟩ := HA2.out.r
    go_wp2_with fail
    refine (HCL.out _).mono ?_
    rintro e w3 ⟨rfl, hb3⟩
    have HA3 : Hid (Aft w w3 R T (a + n) f) := by
      show Aft _ _ _ _ _ _
      have := HA2.out.at (a + n)
      rw [Int.natCast_add] at this
      exact this.below hb3
    clear hb3
    go_wp2
    go_ret
    exact ⟨rfl, HA3.out⟩
end Go.Proofs.YtkficmbkoinjjaaGreatDoor
