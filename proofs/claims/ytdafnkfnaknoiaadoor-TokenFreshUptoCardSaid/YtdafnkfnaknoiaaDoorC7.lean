/- The scanner of package token: strings. -/
import Derived.Test.YtdafnkfnaknoiaaDoorC6
import Derived.Deep.AppendLies
import Derived.Deep.RegionLaw
namespace Go.Proofs.YtdafnkfnaknoiaaDoor
open Go Go.RowKit
set_option maxHeartbeats 1000000
set_option linter.unusedVariables false
set_option linter.unusedSimpArgs false
theorem Rd.belowB {w w' : World} {R B : Nat} {T : ByteArray} {a : Nat} {f : Int} (h : Rd w R T a f) (hR : R < B) (hb : Below B w w') : Rd w' R T a f :=
  ⟨(hb.cell (p := ⟨R, 0, none⟩) hR).trans h.c0, (hb.cell (p := ⟨R, 1, none⟩) hR).trans h.c1, (hb.cell (p := ⟨R, 2, none⟩) hR).trans h.c2, (hb.frozen (p := ⟨R, 1, none⟩) hR).trans h.z1, (hb.frozen (p := ⟨R, 2, none⟩) hR).trans h.z2⟩
theorem Aft.belowB {w w1 w2 : World} {R : Nat} {T : ByteArray} {a : Nat} {f : Int} (h : Aft w w1 R T a f) (hR : R < w.heap.size) (hb : Below w.heap.size w1 w2) : Aft w w2 R T a f :=
  ⟨⟨hb.os.trans h.g.os, hb.tape.trans h.g.tape, hb.output.trans h.g.output, Nat.le_trans h.g.size hb.size, fun i hi hr => (hb.block i hi).trans (h.g.block i hi hr)⟩, h.r.belowB hR hb⟩
theorem own_set {w w2 : World} {B R : Nat} {v : Value} {n : Nat} {xs : List Value} {T : ByteArray} {a : Nat} {f : Int} (h : w.ownsRow B 5 1 v n xs) (hR : R < B) (hb : Aft w w2 R T a f) : w2.ownsRow B 5 1 v n xs := by
  refine h.kept hb.g ?_
  cases hk : v.ownBlock with
  | none => exact .inl rfl
  | some k =>
    have := (h.lt k hk).1
    exact .inr (by simp; omega)
theorem pre_quote (l : List UInt8) : Lib.hasPrefix l [34] = decide (l.head? = some 34) := by
  cases l with
  | nil => simp [Lib.hasPrefix]
  | cons a t =>
    by_cases h : a = 34
    · subst h; simp [Lib.hasPrefix, List.isPrefixOf]
    · simp [Lib.hasPrefix, List.isPrefixOf, h, Ne.symm h]
/-- where the scanner at R stands -/
def posOf (R : Nat) (w : World) : Nat := match w.cell? ⟨R, 1, none⟩ with
  | some (.int _ n) => n.toNat
  | _ => 0
theorem posOf_rd {w : World} {R : Nat} {T : ByteArray} {a : Nat} {f : Int} (h : Rd w R T a f) : posOf R w = a := by
  unfold posOf
  rw [h.c1]
  simp
/-- at the head of each round of a string's loop -/
structure SRel (R : Nat) (T : ByteArray) (a : Nat) (w : World) (X : StrR) (v : Value) (p : Nat) (acc : List UInt8) (wr : World) : Prop where
  aft : Aft w wr R T p 0
  le : p ≤ T.size
  own : wr.ownsRow w.heap.size 5 1 v acc.length (Lib.byteCells acc)
  max : acc.length ≤ 256
  is : X = strL a p acc (T.data.toList.drop p)
/-- what a string gives -/
def StrPost (r : StrR) (R : Nat) (T : ByteArray) (w : World) (e : Ending) (w' : World) : Prop := match r with
  | .bad E q => e = .returned (.string ⟨#[]⟩) ∧ Aft w w' R T q E
  | .ok s q => e = .returned (.string ⟨s.toArray⟩) ∧ Aft w w' R T q 0
theorem own_keep {w w2 : World} {B : Nat} {v : Value} {n : Nat} {xs : List Value} (h : w.ownsRow B 5 1 v n xs) (hb : Below w.heap.size w w2) : w2.ownsRow B 5 1 v n xs := own_below h hb
theorem own_conv {w : World} {B : Nat} {v : Value} {acc : List UInt8} (h : w.ownsRow B 5 1 v acc.length (Lib.byteCells acc)) : (convert 22 9 v).run Tryd.prog w = .ok (.string ⟨acc.toArray⟩) w := by
  rcases h.2 with ⟨rfl, h0⟩ | ⟨g, cap, cur, rfl, -, -, -, -, -, -⟩
  · have hb0 : acc = [] := List.eq_nil_of_length_eq_zero h0
    subst hb0
    exact conv_nil w
  · exact run_convert_bytes_back (P := Tryd.prog) w 22 9 5 ⟨g, 0, none⟩ cap acc Tryd.underlying22 Tryd.underlying5 Tryd.underlying9 (fun j hj => h.cells (g := g) rfl j _ (by simp [Lib.byteCells, hj]))
theorem own_len {w : World} {B : Nat} {v : Value} {acc : List UInt8} (h : w.ownsRow B 5 1 v acc.length (Lib.byteCells acc)) (wx : World) : (Builtin.len_ #[22] 3 #[v]).run Tryd.prog wx = .ok (.int .i64 acc.length) wx := by
  rcases h.2 with ⟨rfl, h0⟩ | ⟨g, cap, cur, rfl, -, -, -, -, -, -⟩
  · rw [h0]; simp [go_sem]
  · simp [go_sem]
/-- the scanner stands there, and the bytes are one's own -/
structure St (R : Nat) (T : ByteArray) (w : World) (v : Value) (p : Nat) (f : Int) (acc : List UInt8) (wx : World) : Prop where
  aft : Aft w wx R T p f
  own : wx.ownsRow w.heap.size 5 1 v acc.length (Lib.byteCells acc)
theorem St.below {R : Nat} {T : ByteArray} {w : World} {v : Value} {p : Nat} {f : Int} {acc : List UInt8} {wx wy : World} (h : St R T w v p f acc wx) (hb : Below wx.heap.size wx wy) : St R T w v p f acc wy := ⟨h.aft.below hb, own_keep h.own hb⟩
theorem St.drewN {R : Nat} {T : ByteArray} {w : World} {v : Value} {p : Nat} {f : Int} {acc : List UInt8} {wx : World} (h : St R T w v p f acc wx) (n : Nat) : St R T w v p f acc (wx.drewN n) := h.below (below_drewN (Below.refl _ _) n)
theorem St.alloc {R : Nat} {T : ByteArray} {w : World} {v : Value} {p : Nat} {f : Int} {acc : List UInt8} {wx : World} (h : St R T w v p f acc wx) (o : Obj) : St R T w v p f acc (wx.alloc o) := h.below ((Below.refl _ _).alloc (Nat.le_refl _) o)
theorem St.at {R : Nat} {T : ByteArray} {w : World} {v : Value} {p : Nat} {f : Int} {acc : List UInt8} {wx : World} (h : St R T w v p f acc wx) (hR : R < w.heap.size) (q : Nat) : St R T w v q f acc (wx.setCell ⟨R, 1, none⟩ (.int .i64 q)) :=
  ⟨h.aft.at q, own_set h.own hR ((Aft.refl h.aft.r).at q)⟩
set_option maxRecDepth 100000 in
theorem str_any (R : Nat) (T : ByteArray) (a : Nat) (w : World) (h : Rd w R T a 0) (ha : a + 1 ≤ T.size) (hT : T.size ≤ 4096) :
    Calls Tryd.prog 33 #[.pointer (some ⟨R, 0, none⟩)] w (StrPost (strL a (a + 1) [] (T.data.toList.drop (a + 1))) R T w) := by
  obtain ⟨i0, hi, hz0, hz1, hz2⟩ := info_parts infoByte
  have hR := h.lt
  have HA := Lib.hid (Aft.refl h)
  obtain ⟨X, hX⟩ : ∃ X, X = strL a (a + 1) [] (T.data.toList.drop (a + 1)) := ⟨_, rfl⟩
  rw [← hX]
  have HX := Lib.hid hX
  clear hX
  obtain ⟨c0, c1, c2, z1, z2⟩ := h
  go_enter Tryd.func33, Tryd.ntmps33
  go_wp2
  have hA1 : Aft w (w.setCell ⟨R, 1, none⟩ (.int .i64 (a + 1 : Nat))) R T (a + 1) 0 := HA.out.at (a + 1)
  obtain ⟨w1, hw1⟩ : ∃ w1, w1 = w.setCell ⟨R, 1, none⟩ (.int .i64 ((a : Int) + 1)) := ⟨_, rfl⟩
  rw [Int.natCast_add] at hA1
  rw [show (((1 : Nat) : Int)) = 1 from rfl, ← hw1] at hA1
  rw [← hw1]
  clear hw1 c0 c1 c2 z1 z2
  go_loopw [4] (fun v wr => ∃ p acc, SRel R T a w X v p acc wr) (fun _ wr => T.size - posOf R wr)
  case atStart => exact ⟨a + 1, [], hA1, ha, by simp [World.ownsRow, Lib.byteCells], by simp, HX.out⟩
  case round =>
    obtain ⟨p, acc, hs⟩ := hrel
    have hS : St R T w u4 p 0 acc wr := ⟨hs.aft, hs.own⟩
    have HIS := Lib.hid hs.is
    have hle := hs.le
    have hmax := hs.max
    clear hs
    obtain ⟨l, hl⟩ : ∃ l, l = T.data.toList.drop p := ⟨_, rfl⟩
    have hll : l.length = T.size - p := by rw [hl]; simp
    have HL := Lib.hid hl
    rw [← hl] at HIS
    have HRC : Hid (∀ wx, St R T w u4 p 0 acc wx → Calls Tryd.prog 36 #[.pointer (some ⟨R, 0, none⟩)] wx fun e w' => e = .returned (.string (restS T p)) ∧ St R T w u4 p 0 acc w') := fun wx hx => (rest_any R T p 0 wx hx.aft.r hle hT).mono fun e w' ⟨h1, k, h2⟩ => ⟨h1, by rw [h2]; exact hx.drewN k⟩
    have HP : Hid (∀ wx, Calls Tryd.prog 46 #[.string (restS T p), .string ⟨#[34]⟩] wx fun e w' => e = .returned (.bool (decide (l.head? = some 34))) ∧ w' = wx) := fun wx => by
      have := Tryd.strings_HasPrefix (restS T p) ⟨#[34]⟩ wx
      rw [restS_list, ← hl, show (⟨#[34]⟩ : ByteArray).data.toList = [34] from rfl, pre_quote] at this
      exact this
    have HCH : Hid (∀ wx, Calls Tryd.prog 50 #[.string (restS T p)] wx (ChPost (charL l) wx)) := fun wx => by
      have := character_any (restS T p) wx
      rw [restS_list, ← hl] at this
      exact this
    clear hl
    by_cases q : l.head? = some 34
    · rw [decide_eq_true q] at HP
      have HE : Hid (X = .ok acc (p + 1)) := by show _ = _; rw [HIS.out, strL_eq, if_pos q]
      clear q
      have v1 : (p : Int) + 1 ≤ 5000 := by omega
      go_wp2_with (first | (go_at_call 36; refine (HRC.out _ (by assumption)).mono ?_; rintro e w2 ⟨rfl, hS2⟩) | (go_at_call 46; refine (HP.out _).mono ?_; rintro e w3 ⟨rfl, rfl⟩; obtain ⟨d0, d1, d2, y1, y2⟩ := hS2.aft.r; have hS3 := hS2.at hR (p + 1); rw [Int.natCast_add, show ((1 : Nat) : Int) = 1 from rfl] at hS3; have hcv := own_conv hS3.own; have HS3 := Lib.hid hS3.aft; clear hS3))
      go_ret
      rw [HE.out]
      exact ⟨rfl, HS3.out⟩
    · rw [decide_eq_false q] at HP
      have HQ := Lib.hid q
      clear q
      rcases hc : charL l with _ | E | ⟨b, n⟩
      · have HC : Hid (charL l = .opn) := hc
        have HE : Hid (X = .bad 52 a) := by show _ = _; rw [HIS.out, strL_eq, if_neg HQ.out, hc]
        rw [hc] at HCH
        clear hc
        have HF : Hid (∀ wx, St R T w u4 p 0 acc wx → Calls Tryd.prog 37 #[.pointer (some ⟨R, 0, none⟩), .int .i64 a, .int .i64 52] wx fun e w' => e = .returned (.tuple #[]) ∧ Aft w w' R T a 52) := fun wx hx => (fail_any R T p 0 a 52 wx hx.aft.r).mono fun e w' ⟨h1, h2⟩ => ⟨h1, hx.aft.trans h2⟩
        go_wp2_with (first | (go_at_call 36; refine (HRC.out _ (by assumption)).mono ?_; rintro e w2 ⟨rfl, hS2⟩) | (go_at_call 46; refine (HP.out _).mono ?_; rintro e w3 ⟨rfl, rfl⟩) | (go_at_call 50; refine (HCH.out _).mono ?_; rintro e w3 ⟨rfl, rfl⟩; simp only [chV]) | (go_at_call 37; refine (HF.out _ (by assumption)).mono ?_; rintro e w4 ⟨rfl, hA4⟩))
        go_ret
        rw [HE.out]
        exact ⟨rfl, hA4⟩
      · have HE : Hid (X = .bad E p) := by show _ = _; rw [HIS.out, strL_eq, if_neg HQ.out, hc]
        rw [hc] at HCH
        have hE : E = 50 ∨ E = 51 := charL_bad hc
        clear hc
        have HF : Hid (∀ wx, St R T w u4 p 0 acc wx → Calls Tryd.prog 37 #[.pointer (some ⟨R, 0, none⟩), .int .i64 p, .int .i64 E] wx fun e w' => e = .returned (.tuple #[]) ∧ Aft w w' R T p E) := fun wx hx => (fail_any R T p 0 p E wx hx.aft.r).mono fun e w' ⟨h1, h2⟩ => ⟨h1, hx.aft.trans h2⟩
        rcases hE with rfl | rfl
        all_goals
          go_wp2_with (first | (go_at_call 36; refine (HRC.out _ (by assumption)).mono ?_; rintro e w2 ⟨rfl, hS2⟩) | (go_at_call 46; refine (HP.out _).mono ?_; rintro e w3 ⟨rfl, rfl⟩) | (go_at_call 50; refine (HCH.out _).mono ?_; rintro e w3 ⟨rfl, rfl⟩; simp only [chV]; obtain ⟨d0, d1, d2, y1, y2⟩ := hS2.aft.r) | (go_at_call 37; refine (HF.out _ (by assumption)).mono ?_; rintro e w4 ⟨rfl, hA4⟩))
          go_ret
          rw [HE.out]
          exact ⟨rfl, hA4⟩
      · have hn := charL_ok hc
        rw [hll] at hn
        rw [hc] at HCH
        by_cases q2 : acc.length = 256
        · have HE : Hid (X = .bad 51 a) := by show _ = _; rw [HIS.out, strL_eq, if_neg HQ.out, hc]; simp only; rw [if_pos q2]
          have hb : ((acc.length : Int) == 256) = true := by simp [q2]
          clear hc q2
          have HF : Hid (∀ wx, St R T w u4 p 0 acc wx → Calls Tryd.prog 37 #[.pointer (some ⟨R, 0, none⟩), .int .i64 a, .int .i64 51] wx fun e w' => e = .returned (.tuple #[]) ∧ Aft w w' R T a 51) := fun wx hx => (fail_any R T p 0 a 51 wx hx.aft.r).mono fun e w' ⟨h1, h2⟩ => ⟨h1, hx.aft.trans h2⟩
          go_wp2_with (first | (go_at_call 36; refine (HRC.out _ (by assumption)).mono ?_; rintro e w2 ⟨rfl, hS2⟩) | (go_at_call 46; refine (HP.out _).mono ?_; rintro e w3 ⟨rfl, rfl⟩) | (go_at_call 50; refine (HCH.out _).mono ?_; rintro e w3 ⟨rfl, rfl⟩; simp only [chV]; have hlen := own_len hS2.own w3) | (go_at_call 37; refine (HF.out _ (by assumption)).mono ?_; rintro e w4 ⟨rfl, hA4⟩))
          go_ret
          rw [HE.out]
          exact ⟨rfl, hA4⟩
        · have HE : Hid (X = strL a (p + n) (acc ++ [b]) (T.data.toList.drop (p + n))) := by
            show _ = _
            rw [HIS.out, strL_eq, if_neg HQ.out, hc]
            simp only
            rw [if_neg q2, HL.out, List.drop_drop]
          have hb : ((acc.length : Int) == 256) = false := by simp; omega
          have hm1 : acc.length + 1 ≤ maxLen := by unfold maxLen; omega
          have hmm : acc.length + 1 ≤ 256 := by omega
          have hfit : (p : Int) + (n : Int) ≤ 4096 := by omega
          have hfit2 : p + n ≤ T.size := by omega
          have hn1 : 0 < n := hn.1
          clear hc q2 hn
          go_wp2_with (first | (go_at_call 36; refine (HRC.out _ (by assumption)).mono ?_; rintro e w2 ⟨rfl, hS2⟩) | (go_at_call 46; refine (HP.out _).mono ?_; rintro e w3 ⟨rfl, rfl⟩) | (go_at_call 50; refine (HCH.out _).mono ?_; rintro e w3 ⟨rfl, rfl⟩; simp only [chV]; have hlen := own_len hS2.own w3; have hS3 := fun o => hS2.alloc o) | (at_builtin; refine wpList_append_own _ rfl _ _ 22 rfl w.heap.size 5 i0 (.int .u8 0) 1 1 Tryd.underlying22 hi hz0 hz1 hz2 rfl (by decide) _ _ _ rfl (hS3 _).own ⟨w3.heap.size, 0, none⟩ 1 1 (u8s [(b.toNat : Int)]) rfl rfl (lit_cells _ _ _) (u8s_one _) hm1 (by omega) (by have := hS2.aft.g.size; simp; omega) ?_; intro v4 w4 hown4 hgrow4 _; refine Hid.out ?_))
          refine Lib.hid ?_
          have hw3 := hS2.aft.g.size
          have hS4 : St R T w v4 p 0 (acc ++ [b]) w4 := ⟨(hS3 _).aft.belowB hR (((Below.refl _ _ : Below w.heap.size (w3.alloc _) (w3.alloc _))).grown hgrow4 (by simp; omega) (fun k hk => ((hS3 (.cells (u8s [(b.toNat : Int)]).toArray 5)).own.lt k hk).1)), by simpa [Lib.byteCells, u8s] using hown4⟩
          obtain ⟨d0, d1, d2, y1, y2⟩ := hS4.aft.r
          have hS5 := hS4.at hR (p + n)
          rw [Int.natCast_add] at hS5
          have HS5 := Lib.hid hS5
          clear hS5 hS3 hown4 hgrow4 hS2 hS4
          go_wp2
          go_roundw
          case rel => exact ⟨p + n, acc ++ [b], HS5.out.aft, hfit2, HS5.out.own, by simp; omega, HE.out⟩
          case measure =>
            have h5 := posOf_rd HS5.out.aft.r
            have h6 := posOf_rd hS.aft.r
            rw [h5, h6]
            omega
end Go.Proofs.YtdafnkfnaknoiaaDoor
