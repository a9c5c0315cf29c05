/- The scanner of package token: tokens: what holds at the head of each round. -/
import Derived.Test.YtdafnkfnaknoiaaDoorD0
import Derived.Deep.LoopGhost
namespace Go.Proofs.YtdafnkfnaknoiaaDoor
open Go Go.RowKit
set_option maxHeartbeats 1000000
set_option linter.unusedVariables false
set_option linter.unusedSimpArgs false
theorem infoTok : (Tryd.prog.info? 28).map (fun i => (i.zero, i.size, i.bytes)) = some (some (.agg #[.int .i64 0, .string ⟨#[]⟩, .int .i64 0]), 3, 32) := by kernel_rfl
def tkV (t : Tk) : List Value := [.int .i64 t.1, .string ⟨t.2.1.toArray⟩, .int .i64 t.2.2]
def tkCells (l : List Tk) : List Value := l.flatMap tkV
theorem tkCells_snoc (l : List Tk) (t : Tk) : tkCells (l ++ [t]) = tkCells l ++ tkV t := by simp [tkCells]
theorem own3_keep {w w2 : World} {B : Nat} {v : Value} {n : Nat} {xs : List Value} (h : w.ownsRow B 28 3 v n xs) (hb : Below w.heap.size w w2) : w2.ownsRow B 28 3 v n xs := by
  refine h.kept (w' := w2) ⟨hb.os, hb.tape, hb.output, hb.size, fun i hi _ => hb.block i hi⟩ (row := none) ?_
  cases v.ownBlock with
  | none => exact .inl rfl
  | some k => exact .inr (by simp)
theorem own3_set {w w2 : World} {B R : Nat} {v : Value} {n : Nat} {xs : List Value} {T : ByteArray} {a : Nat} {f : Int} (h : w.ownsRow B 28 3 v n xs) (hR : R < B) (hb : Aft w w2 R T a f) : w2.ownsRow B 28 3 v n xs := by
  refine h.kept hb.g ?_
  cases hk : v.ownBlock with
  | none => exact .inl rfl
  | some k =>
    have := (h.lt k hk).1
    exact .inr (by simp; omega)
/-- the scanner stands there, and the tokens are one's own -/
structure Tks (R : Nat) (T : ByteArray) (w : World) (v : Value) (L : List Tk) (p : Nat) (f : Int) (wx : World) : Prop where
  aft : Aft w wx R T p f
  own : wx.ownsRow w.heap.size 28 3 v L.length (tkCells L)
theorem Tks.go {R : Nat} {T : ByteArray} {w : World} {v : Value} {L : List Tk} {p q : Nat} {f g : Int} {wx wy : World} (h : Tks R T w v L p f wx) (hR : R < w.heap.size) (k : Aft wx wy R T q g) : Tks R T w v L q g wy := ⟨h.aft.trans k, own3_set h.own hR k⟩
theorem Tks.below {R : Nat} {T : ByteArray} {w : World} {v : Value} {L : List Tk} {p : Nat} {f : Int} {wx wy : World} (h : Tks R T w v L p f wx) (hb : Below wx.heap.size wx wy) : Tks R T w v L p f wy := ⟨h.aft.below hb, own3_keep h.own hb⟩
theorem Tks.drewN {R : Nat} {T : ByteArray} {w : World} {v : Value} {L : List Tk} {p : Nat} {f : Int} {wx : World} (h : Tks R T w v L p f wx) (n : Nat) : Tks R T w v L p f (wx.drewN n) := h.below (below_drewN (Below.refl _ _) n)
theorem Tks.alloc {R : Nat} {T : ByteArray} {w : World} {v : Value} {L : List Tk} {p : Nat} {f : Int} {wx : World} (h : Tks R T w v L p f wx) (o : Obj) : Tks R T w v L p f (wx.alloc o) := h.below ((Below.refl _ _).alloc (Nat.le_refl _) o)
theorem Tks.at {R : Nat} {T : ByteArray} {w : World} {v : Value} {L : List Tk} {p : Nat} {f : Int} {wx : World} (h : Tks R T w v L p f wx) (hR : R < w.heap.size) (q : Nat) : Tks R T w v L q f (wx.setCell ⟨R, 1, none⟩ (.int .i64 q)) := h.go hR ((Aft.refl h.aft.r).at q)
/-- the other blocks are as they were -/
structure Apart (R : Nat) (w w' : World) : Prop where
  cell : ∀ b o, b < w.heap.size → ¬ b = R → w'.cell? ⟨b, o, none⟩ = w.cell? ⟨b, o, none⟩
  frozen : ∀ b o, b < w.heap.size → ¬ b = R → w'.frozen? ⟨b, o, none⟩ = w.frozen? ⟨b, o, none⟩
  size : w.heap.size ≤ w'.heap.size
theorem Aft.apart {w w' : World} {R : Nat} {T : ByteArray} {a : Nat} {f : Int} (h : Aft w w' R T a f) : Apart R w w' :=
  ⟨fun b o hb hr => World.cell?_of_block (a := ⟨b, o, none⟩) (h.g.block b hb (by simpa using hr)), fun b o hb hr => World.frozen?_of_block (a := ⟨b, o, none⟩) (h.g.block b hb (by simpa using hr)), h.g.size⟩
/-- the token under way at N -/
structure Tc (w : World) (N : Nat) (k : Int) (s : ByteArray) (p : Nat) : Prop where
  c0 : w.cell? ⟨N, 0, none⟩ = some (.int .i64 k)
  c1 : w.cell? ⟨N, 1, none⟩ = some (.string s)
  c2 : w.cell? ⟨N, 2, none⟩ = some (.int .i64 p)
  z0 : w.frozen? ⟨N, 0, none⟩ = false
  z1 : w.frozen? ⟨N, 1, none⟩ = false
  z2 : w.frozen? ⟨N, 2, none⟩ = false
theorem Tc.fresh (w : World) (p : Nat) : Tc (w.alloc (.cells #[.int .i64 0, .string ⟨#[]⟩, .int .i64 p] 28)) w.heap.size 0 ⟨#[]⟩ p :=
  ⟨by simp [go_sem], by simp [go_sem], by simp [go_sem], by simp [go_sem], by simp [go_sem], by simp [go_sem]⟩
theorem Tc.apart {w w' : World} {N R : Nat} {k : Int} {s : ByteArray} {p : Nat} (h : Tc w N k s p) (hN : ¬ N = R) (ha : Apart R w w') : Tc w' N k s p :=
  have hl := lt_of_cell h.c0
  ⟨(ha.cell N 0 hl hN).trans h.c0, (ha.cell N 1 hl hN).trans h.c1, (ha.cell N 2 hl hN).trans h.c2, (ha.frozen N 0 hl hN).trans h.z0, (ha.frozen N 1 hl hN).trans h.z1, (ha.frozen N 2 hl hN).trans h.z2⟩
theorem below_apart {w w' : World} (hb : Below w.heap.size w w') (R : Nat) : Apart R w w' :=
  ⟨fun b o h _ => hb.cell (p := ⟨b, o, none⟩) h, fun b o h _ => hb.frozen (p := ⟨b, o, none⟩) h, hb.size⟩
theorem Tks.setN {R N : Nat} {T : ByteArray} {w : World} {v : Value} {L : List Tk} {p : Nat} {f : Int} {wx : World} (h : Tks R T w v L p f wx) (hw : w.heap.size ≤ N) (hR : R < w.heap.size) (hk : ∀ k, v.ownBlock = some k → k < N) (o : Nat) (u : Value) : Tks R T w v L p f (wx.setCell ⟨N, o, none⟩ u) := by
  refine ⟨h.aft.belowB hR ?_, ?_⟩
  · refine Below.setCell (Below.refl _ _) ?_ _
    exact hw
  · refine ownsRow_setCell_other h.own (fun e => ?_) u
    exact absurd (hk N e) (by omega)
/-- at the head of each round; X is what comes of it all -/
structure TRel (R : Nat) (T : ByteArray) (w : World) (X : Sc) (g : Nat) (v : Value) (wr : World) (L : List Tk) (p : Nat) (f : Int) : Prop where
  tks : Tks R T w v L p f wr
  is : (f = 0 ∧ L.length ≤ p ∧ p ≤ T.size ∧ X = scanT p L (T.data.toList.drop p) ∧ g = T.size - p + 1) ∨ (f ≠ 0 ∧ X = .bad f p ∧ g = 0)
/-- what a text's tokens are -/
def TksPost (X : Sc) (R : Nat) (T : ByteArray) (w : World) (e : Ending) (w' : World) : Prop := ∃ v L q f, e = .returned v ∧ Tks R T w v L q f w' ∧ match X with
  | .bad E p => f = E ∧ q = p ∧ E ≠ 0
  | .ok M => f = 0 ∧ L = M
theorem lit_at (W : World) (n : Nat) (hn : W.heap.size = n) (l : List Value) (t : TypeId) : ∀ j u, l[j]? = some u → (W.alloc (.cells l.toArray t)).cell? ((⟨n, 0, none⟩ : Addr).add j) = some u := by
  subst hn
  exact lit_cells W l t
theorem ones3 (k : Int) (s : ByteArray) (p : Int) : ∀ u ∈ [Value.int .i64 k, .string s, .int .i64 p], u.oneCell' = true := by
  intro u hu
  simp only [List.mem_cons, List.not_mem_nil, or_false] at hu
  rcases hu with rfl | rfl | rfl <;> rfl
theorem set_size (w : World) (a b : Addr) (u v : Value) : ((w.setCell a u).setCell b v).heap.size = w.heap.size := by simp
/-- behind the append of a token -/
theorem Tks.app {R : Nat} {T : ByteArray} {w : World} {v : Value} {L : List Tk} {p : Nat} {f : Int} {wx wy : World} {g cap : Nat} (h : Tks R T w v L p f wx) (hR : R < w.heap.size) (k : Int) (S : ByteArray) (a : Nat)
    (hown : wy.ownsRow w.heap.size 28 3 (.slice (some ⟨g, 0, none⟩) (L.length + 1) cap) (L.length + 1) (tkCells L ++ [.int .i64 k, .string S, .int .i64 a])) (hg : wx.grownBy wy v.ownBlock) :
    Tks R T w (.slice (some ⟨g, 0, none⟩) (L.length + 1) cap) (L ++ [(k, S.data.toList, a)]) p f wy := by
  refine ⟨h.aft.belowB hR ((Below.refl _ _).grown hg h.aft.g.size (fun k hk => (h.own.lt k hk).1)), ?_⟩
  rw [tkCells_snoc, List.length_append]
  have e : tkV (k, S.data.toList, a) = [.int .i64 k, .string S, .int .i64 a] := by
    unfold tkV
    rw [show (⟨S.data.toList.toArray⟩ : ByteArray) = S from bytes_ext' (by simp)]
  rw [e]
  exact hown
theorem Step.rel {R : Nat} {T : ByteArray} {w : World} {X : Sc} {L : List Tk} {p q : Nat} {k : Int} {S : ByteArray} {f : Int} {v : Value} {wx : World} (h : Step T X L p k S q f) (hl : L.length ≤ p) (ht : Tks R T w v (L ++ [(k, S.data.toList, p)]) q f wx) :
    ∃ L p f', TRel R T w X (if f = 0 then T.size - q + 1 else 0) v wx L p f' := by
  refine ⟨_, _, _, ht, ?_⟩
  rcases h with ⟨rfl, h1, h2, h3⟩ | ⟨h1, h2⟩
  · exact .inl ⟨rfl, by simp; omega, h2, h3, by simp⟩
  · exact .inr ⟨h1, h2, by simp [h1]⟩
theorem Step.less {T : ByteArray} {X : Sc} {L : List Tk} {p q : Nat} {k : Int} {S : ByteArray} {f : Int} (h : Step T X L p k S q f) (hp : p ≤ T.size) : (if f = 0 then T.size - q + 1 else 0) < T.size - p + 1 := by
  rcases h with ⟨rfl, h1, h2, h3⟩ | ⟨h1, h2⟩
  · simp; omega
  · rw [if_neg h1]; omega
theorem note_in (T : List UInt8) (p : Nat) : ∀ i, i < noteL (T.drop p) → ∀ b, T[p + i]? = some b → b ≠ 10 := by
  intro i hi b hb
  have h1 : ((T.drop p).takeWhile (· != 10))[i]? = some b := by
    have : (T.drop p)[i]? = some b := by rw [List.getElem?_drop]; exact hb
    obtain ⟨r, hr⟩ := List.takeWhile_prefix (p := fun x : UInt8 => x != 10) (l := T.drop p)
    rw [← hr, List.getElem?_append_left hi] at this
    exact this
  have h2 := List.mem_of_getElem? h1
  have h3 := List.all_eq_true.1 (List.all_takeWhile (p := fun x : UInt8 => x != 10) (l := T.drop p)) b h2
  simpa using h3
theorem note_out (T : List UInt8) (p : Nat) : T[p + noteL (T.drop p)]? = none ∨ T[p + noteL (T.drop p)]? = some 10 := by
  rw [← List.getElem?_drop]
  generalize T.drop p = l
  unfold noteL
  induction l with
  | nil => exact .inl rfl
  | cons a l ih =>
    by_cases h : a = 10
    · subst h; exact .inr rfl
    · rw [List.takeWhile_cons_of_pos (by simpa using h)]
      simpa using ih
set_option maxRecDepth 100000 in
theorem tokens_any (R : Nat) (T : ByteArray) (w0 w : World) (h : Rd w R T 0 0) (hT : T.size ≤ 4096) (hok : Ok w0 w) (hr : w0.heap.size ≤ R) :
    Calls Tryd.prog 21 #[.pointer (some ⟨R, 0, none⟩)] w (TksPost (scanT 0 [] T.data.toList) R T w) := by
  obtain ⟨i0, hi, hz0, hz1, hz2⟩ := info_parts infoTok
  have hR := h.lt
  have HA := Lib.hid (Aft.refl h)
  obtain ⟨X, hX⟩ : ∃ X, X = scanT 0 [] T.data.toList := ⟨_, rfl⟩
  rw [← hX]
  have HX := Lib.hid hX
  clear h hX
  go_enter Tryd.func21, Tryd.ntmps21
  go_wp2
  go_step3
  go_wp2
  go_step3
  go_wp2
  go_loopg [3] (T.size + 1) (fun g v wr => ∃ L p f, TRel R T w X g v wr L p f)
  case atStart => exact ⟨[], 0, 0, ⟨HA.out, World.ownsRow_nil _ _ _ _⟩, .inl ⟨rfl, Nat.le_refl _, Nat.zero_le _, HX.out, rfl⟩⟩
  case round =>
    obtain ⟨L, p, f, htk, his⟩ := hrel
    have HTK := Lib.hid htk
    obtain ⟨d0, d1, d2, y1, y2⟩ := htk.aft.r
    have hlt := htk.aft.r.lt
    have hgw := htk.aft.g.size
    clear htk
    rcases his with ⟨rfl, hlen, hle, hX1, hg⟩ | ⟨hf, hX1, hg⟩
    · have HX1 := Lib.hid hX1
      have HG := Lib.hid hg
      obtain ⟨l, hl⟩ : ∃ l, l = T.data.toList.drop p := ⟨_, rfl⟩
      rw [← hl] at HX1
      have HL := Lib.hid hl
      have hll : l.length = T.size - p := by rw [hl]; simp
      have hNR : ¬ wr.heap.size = R := by omega
      obtain ⟨st, hst⟩ : ∃ st, st = sttL l := ⟨_, rfl⟩
      have HST : Hid (∀ wx, Tks R T w u3 L p 0 wx → Calls Tryd.prog 30 #[.pointer (some ⟨R, 0, none⟩)] wx fun e w' => e = .returned (.int .i64 st) ∧ Tks R T w u3 L p 0 w' ∧ Below wx.heap.size wx w') := fun wx hx => (state_any R T p 0 wx hx.aft.r hle hT).mono fun e w' ⟨h1, h2⟩ => ⟨by rw [h1, hst, hl], hx.below h2, h2⟩
      have HOB : Hid (∀ k, u3.ownBlock = some k → k < wr.heap.size) := fun k hk => (HTK.out.own.lt k hk).2
      have hm1 : L.length + 1 ≤ maxLen := by unfold maxLen; omega
      have hm2 : (L.length + 1) * 32 ≤ 140737488355328 := by omega
      have HLEN := Lib.hid hlen
      have HLE := Lib.hid hle
      have HGW := Lib.hid hgw
      clear hl hX1 hg hlen
      have HOK := Lib.hid hok
      have HOK2 : Hid (∀ wx f, Aft w wx R T p f → Ok w0 wx) := fun wx f ha => hok.aft ha hr
      clear hok
      rcases stt_cases l p with ⟨rfl, hs0, hs⟩ | ⟨c, t, hlc, hs0, hs⟩ | ⟨t, hlc, hs0, hs⟩ | ⟨t, hlc, hs0, hs⟩ | ⟨c, t, hlc, hdc, hs0, hs⟩ | ⟨hln, hpos, hs0, hs⟩ | ⟨hln, hs0, hs⟩ | ⟨hln, hpos, hs0, hs⟩
      · have hx2 : X = .ok (L ++ [(5, [], p)]) := by rw [HX1.out, scanT_eq, hs]
        have HX2 := Lib.hid hx2
        have hst2 : st = 0 := hst.trans hs0
        subst hst2
        clear hx2 hst hs hs0 hle hll hgw
        go_wp2_with (first | (go_at_call 30; refine (HST.out _ (HTK.out.alloc _)).mono ?_; rintro e w2 ⟨rfl, hT2, hb2⟩; have hTc2 := (Tc.fresh wr p).apart hNR (below_apart hb2 R); obtain ⟨t0, t1, t2, x0, x1, x2⟩ := hTc2; have hT4 := fun u => hT2.setN HGW.out hR HOB.out 0 u; have hW4 : ∀ (a : Value) (o : Obj), w.heap.size ≤ ((w2.setCell ⟨wr.heap.size, 0, none⟩ a).alloc o).heap.size := fun a o => (by have := hT2.aft.g.size; simp; omega)) | (at_builtin; refine wpList_append_lies _ rfl _ _ 23 rfl w.heap.size 28 i0 (.agg #[.int .i64 0, .string ⟨#[]⟩, .int .i64 0]) 3 32 Tryd.underlying23 hi hz0 hz1 hz2 rfl (by decide) _ _ _ rfl (World.ownsRow.alloc (hT4 (.int .i64 5)).own _) ⟨w2.heap.size, 0, none⟩ 1 1 [.int .i64 5, .string ⟨#[]⟩, .int .i64 p] rfl rfl (fun j u h => lit_at _ _ (by simp) _ _ j u h) (ones3 _ _ _) (by decide) hm1 hm2 (hW4 _ _) (w2.heap.size + 1) (by simp) ?_))
        intro g5 cap5 w5 hown5 hgr5 hwh5 hlt5
        have HT5 := Lib.hid (((hT4 (.int .i64 5)).alloc _).app hR 5 ⟨#[]⟩ p hown5 hgr5)
        clear hown5 hgr5 hwh5 hlt5
        go_wp2
        go_ret
        exact ⟨_, _, p, 0, rfl, HT5.out, by rw [HX2.out]; exact ⟨rfl, rfl⟩⟩
      · rw [HL.out] at hs HX1 hlc
        have hp1 : p + 1 ≤ T.size := by
          have := congrArg List.length hlc
          simp at this
          omega
        have hx2 : X = scanT (p + 1) L (T.data.toList.drop (p + 1)) := by
          rw [HX1.out, scanT_eq, hs]
          simp only
          rw [List.drop_drop]
        have HX2 := Lib.hid hx2
        have hst2 : st = 1 := hst.trans hs0
        subst hst2
        have v1 : (p : Int) + 1 ≤ 4096 := by omega
        clear hx2 hst hs hs0 hle hll hgw hlc
        go_wp2_with (go_at_call 30; refine (HST.out _ (HTK.out.alloc _)).mono ?_; rintro e w2 ⟨rfl, hT2, hb2⟩; have hT3 := hT2.at hR (p + 1); rw [Int.natCast_add, show ((1 : Nat) : Int) = 1 from rfl] at hT3; have HT3 := Lib.hid hT3; clear hT3; obtain ⟨d0, d1, d2, y1, y2⟩ := hT2.aft.r)
        go_roundg (T.size - (p + 1) + 1)
        case rel => exact ⟨L, p + 1, 0, HT3.out, .inl ⟨rfl, by have := HLEN.out; omega, hp1, HX2.out, rfl⟩⟩
        case measure => rw [HG.out]; omega
      · rw [HL.out] at hs HX1 hlc
        have hst2 : st = 2 := hst.trans hs0
        subst hst2
        have hx2 : X = scanT (p + noteL (T.data.toList.drop p)) L (T.data.toList.drop (p + noteL (T.data.toList.drop p))) := by
          rw [HX1.out, scanT_eq, hs]
          simp only
          rw [List.drop_drop]
        have hn0 : 0 < noteL (T.data.toList.drop p) := by rw [hlc]; exact noteL_pos _ (by decide)
        have hnl := noteL_le (T.data.toList.drop p)
        rw [List.length_drop] at hnl
        have hTl : T.data.toList.length = T.size := by simp
        have hin : ∀ i, i < noteL (T.data.toList.drop p) → ∀ b, T.data.toList[p + i]? = some b → b ≠ 10 := note_in _ _
        have hout : T.data.toList[p + noteL (T.data.toList.drop p)]? = none ∨ T.data.toList[p + noteL (T.data.toList.drop p)]? = some 10 := note_out _ _
        obtain ⟨n, hn⟩ : ∃ n, n = noteL (T.data.toList.drop p) := ⟨_, rfl⟩
        rw [← hn] at hx2 hn0 hnl hin hout
        have HX2 := Lib.hid hx2
        have HIN := Lib.hid hin
        have HOUT := Lib.hid hout
        have HN0 := Lib.hid hn0
        have HNL : Hid (p + n ≤ T.size) := by show _ ≤ _; omega
        clear hx2 hst hs hs0 hle hll hgw hlc hn hn0 hnl hin hout hTl
        go_wp2_with (go_at_call 30; refine (HST.out _ (HTK.out.alloc _)).mono ?_; rintro e w2 ⟨rfl, hT2, hb2⟩)
        have HT2 := Lib.hid hT2
        clear hT2 hb2
        obtain ⟨gk0, hgk0⟩ : ∃ g0, g0 = gk := ⟨_, rfl⟩
        rw [← hgk0] at HG
        have HGK := Lib.hid hgk0
        clear hgk0
        go_loopg [] (n + 1) (fun g wi => ∃ i, i ≤ n ∧ Tks R T w u3 L (p + i) 0 wi ∧ g = n - i + 1)
        case atStart => exact ⟨0, Nat.zero_le _, HT2.out, rfl⟩
        case round =>
          obtain ⟨i, hin, hti, hgi⟩ := hrel
          obtain ⟨q, hq⟩ : ∃ q, q = p + i := ⟨_, rfl⟩
          rw [← hq] at hti
          have HTI := Lib.hid hti
          have HIN2 : Hid (i ≤ n) := hin
          have HGI := Lib.hid hgi
          have HQ := Lib.hid hq
          have hqT : q ≤ T.size := by have := HNL.out; omega
          obtain ⟨c0, c1, c2, z1, z2⟩ := hti.aft.r
          clear hti hgi
          by_cases hi : i = n
          · have HR : Hid (∀ k, ∃ L p' f', TRel R T w X (T.size - (p + n) + 1) u3 (wr.drewN k) L p' f') := by
              intro k
              refine ⟨L, p + n, 0, by rw [← hi, ← hq]; exact HTI.out.drewN k, .inl ⟨rfl, by have := HLEN.out; omega, HNL.out, HX2.out, rfl⟩⟩
            have HM : Hid (T.size - (p + n) + 1 < gk0) := by show _ < _; rw [HG.out]; have := HN0.out; have := HNL.out; omega
            by_cases hqe : q = T.size
            · have be : ((q : Int) == (T.size : Int)) = true := by simp [hqe]
              clear hi hqe hq hin hqT
              go_wp2
              go_quiet (fail)
              go_wp2
              go_roundg (T.size - (p + n) + 1)
              case rel => exact HR.out _
              case measure => rw [← show gk0 = _ from HGK.out]; exact HM.out
            · have hlt' : q < T.size := by omega
              have be : ((q : Int) == (T.size : Int)) = false := by simp; omega
              have eb : T[q]'hlt' = 10 := by
                have h1 : T.data.toList[q]? = some (T[q]'hlt') := at_some hlt'
                rcases HOUT.out with h2 | h2
                · rw [← hi, ← hq] at h2; rw [h2] at h1; cases h1
                · rw [← hi, ← hq] at h2; rw [h2] at h1; exact (Option.some.inj h1).symm
              have b10 : ((T[q]'hlt').toNat : Int) = 10 := by rw [eb]; rfl
              clear hi hqe hq hin eb
              go_wp2
              go_quiet (fail)
              go_wp2
              go_roundg (T.size - (p + n) + 1)
              case rel => exact HR.out _
              case measure => rw [← show gk0 = _ from HGK.out]; exact HM.out
          · have hlt' : q < T.size := by have := HNL.out; omega
            have be : ((q : Int) == (T.size : Int)) = false := by simp; omega
            have eb : T[q]'hlt' ≠ 10 := HIN.out i (by omega) _ (by rw [← hq]; exact at_some hlt')
            have b10 : (((T[q]'hlt').toNat : Int) == 10) = false := by
              have h1 : (T[q]'hlt').toNat ≠ 10 := fun h => eb (UInt8.toNat_inj.1 h)
              simp only [beq_eq_false_iff_ne]
              omega
            have v1 : (q : Int) + 1 ≤ 4096 := by omega
            have hS : ∀ k, Tks R T w u3 L (q + 1) 0 ((wr.drewN k).setCell ⟨R, 1, none⟩ (.int .i64 ((q : Int) + 1))) := by
              intro k
              have := (HTI.out.drewN k).at hR (q + 1)
              rw [Int.natCast_add] at this
              exact this
            have HS := Lib.hid hS
            have HI1 : Hid (i + 1 ≤ n) := by show _ ≤ _; omega
            clear hi hq hin eb hS
            go_wp2
            go_quiet (fail)
            go_wp2
            go_roundg (n - (i + 1) + 1)
            case rel => exact ⟨i + 1, HI1.out, by rw [show p + (i + 1) = q + 1 by rw [HQ.out]; omega]; exact HS.out _, rfl⟩
            case measure => have := HGI.out; have := HI1.out; omega
      · rw [HL.out] at hs HX1 hlc
        obtain ⟨S, q, f', hstep, hcall⟩ := str_reads R T X L p w0 hT hle t hlc HX1.out hs
        have hst2 : st = 5 := hst.trans hs0
        have HW := Lib.hid hcall
        subst hst2
        clear hcall hs hs0 hle hll hgw
        have HSTEP := Lib.hid hstep
        clear hstep hst
        go_wp2_with (first | (go_at_call 30; refine (HST.out _ (HTK.out.alloc _)).mono ?_; rintro e w2 ⟨rfl, hT2, hb2⟩; have hTc2 := (Tc.fresh wr p).apart hNR (below_apart hb2 R)) | (go_at_call 33; refine (HW.out _ (HOK2.out _ _ hT2.aft) hT2.aft.r).mono ?_; rintro e w3 ⟨rfl, hA3⟩; have hT3 := hT2.go hR hA3; have hT4 := fun u v => (hT3.setN HGW.out hR HOB.out 0 u).setN HGW.out hR HOB.out 1 v; have hW4 : ∀ (a b : Value) (o : Obj), w.heap.size ≤ (((w3.setCell ⟨wr.heap.size, 0, none⟩ a).setCell ⟨wr.heap.size, 1, none⟩ b).alloc o).heap.size := fun a b o => (by have := hT3.aft.g.size; simp; omega); obtain ⟨t0, t1, t2, x0, x1, x2⟩ := hTc2.apart hNR hA3.apart) | (at_builtin; refine wpList_append_lies _ rfl _ _ 23 rfl w.heap.size 28 i0 (.agg #[.int .i64 0, .string ⟨#[]⟩, .int .i64 0]) 3 32 Tryd.underlying23 hi hz0 hz1 hz2 rfl (by decide) _ _ _ rfl (World.ownsRow.alloc (hT4 (.int .i64 3) (.string S)).own _) ⟨w3.heap.size, 0, none⟩ 1 1 [.int .i64 3, .string S, .int .i64 p] rfl rfl (fun j u h => lit_at _ _ (set_size _ _ _ _ _) _ _ j u h) (ones3 _ _ _) (by decide) hm1 hm2 (hW4 _ _ _) (w3.heap.size + 1) (by simp) ?_))
        intro g5 cap5 w5 hown5 hgr5 hwh5 hlt5
        have HT5 := Lib.hid (((hT4 (.int .i64 3) (.string S)).alloc _).app hR 3 S p hown5 hgr5)
        clear hown5 hgr5 hwh5 hlt5
        go_wp2
        go_roundg (if f' = 0 then T.size - q + 1 else 0)
        case rel => exact HSTEP.out.rel HLEN.out HT5.out
        case measure => have := HSTEP.out.less HLE.out; rw [HG.out]; exact this
      · rw [HL.out] at hs HX1 hlc
        obtain ⟨S, q, f', hstep, hcall⟩ := num_reads R T X L p w0 hr hT hle c t hlc hdc HX1.out hs
        have hst2 : st = 4 := hst.trans hs0
        have HW := Lib.hid hcall
        subst hst2
        clear hcall hs hs0 hle hll hgw
        have HSTEP := Lib.hid hstep
        clear hstep hst
        go_wp2_with (first | (go_at_call 30; refine (HST.out _ (HTK.out.alloc _)).mono ?_; rintro e w2 ⟨rfl, hT2, hb2⟩; have hTc2 := (Tc.fresh wr p).apart hNR (below_apart hb2 R)) | (go_at_call 32; refine (HW.out _ (HOK2.out _ _ hT2.aft) hT2.aft.r).mono ?_; rintro e w3 ⟨rfl, hA3⟩; have hT3 := hT2.go hR hA3; have hT4 := fun u v => (hT3.setN HGW.out hR HOB.out 0 u).setN HGW.out hR HOB.out 1 v; have hW4 : ∀ (a b : Value) (o : Obj), w.heap.size ≤ (((w3.setCell ⟨wr.heap.size, 0, none⟩ a).setCell ⟨wr.heap.size, 1, none⟩ b).alloc o).heap.size := fun a b o => (by have := hT3.aft.g.size; simp; omega); obtain ⟨t0, t1, t2, x0, x1, x2⟩ := hTc2.apart hNR hA3.apart) | (at_builtin; refine wpList_append_lies _ rfl _ _ 23 rfl w.heap.size 28 i0 (.agg #[.int .i64 0, .string ⟨#[]⟩, .int .i64 0]) 3 32 Tryd.underlying23 hi hz0 hz1 hz2 rfl (by decide) _ _ _ rfl (World.ownsRow.alloc (hT4 (.int .i64 2) (.string S)).own _) ⟨w3.heap.size, 0, none⟩ 1 1 [.int .i64 2, .string S, .int .i64 p] rfl rfl (fun j u h => lit_at _ _ (set_size _ _ _ _ _) _ _ j u h) (ones3 _ _ _) (by decide) hm1 hm2 (hW4 _ _ _) (w3.heap.size + 1) (by simp) ?_))
        intro g5 cap5 w5 hown5 hgr5 hwh5 hlt5
        have HT5 := Lib.hid (((hT4 (.int .i64 2) (.string S)).alloc _).app hR 2 S p hown5 hgr5)
        clear hown5 hgr5 hwh5 hlt5
        go_wp2
        go_roundg (if f' = 0 then T.size - q + 1 else 0)
        case rel => exact HSTEP.out.rel HLEN.out HT5.out
        case measure => have := HSTEP.out.less HLE.out; rw [HG.out]; exact this
      · rw [HL.out] at hs HX1
        obtain ⟨S, q, f', hstep, hcall⟩ := word_reads R T X L p w0 hT hle HX1.out hs
        have hst2 : st = 3 := hst.trans hs0
        have HW := Lib.hid hcall
        subst hst2
        clear hcall hs hs0 hle hll hgw
        have HSTEP := Lib.hid hstep
        clear hstep hst
        go_wp2_with (first | (go_at_call 30; refine (HST.out _ (HTK.out.alloc _)).mono ?_; rintro e w2 ⟨rfl, hT2, hb2⟩; have hTc2 := (Tc.fresh wr p).apart hNR (below_apart hb2 R)) | (go_at_call 31; refine (HW.out _ (HOK2.out _ _ hT2.aft) hT2.aft.r).mono ?_; rintro e w3 ⟨rfl, hA3⟩; have hT3 := hT2.go hR hA3; have hT4 := fun u v => (hT3.setN HGW.out hR HOB.out 0 u).setN HGW.out hR HOB.out 1 v; have hW4 : ∀ (a b : Value) (o : Obj), w.heap.size ≤ (((w3.setCell ⟨wr.heap.size, 0, none⟩ a).setCell ⟨wr.heap.size, 1, none⟩ b).alloc o).heap.size := fun a b o => (by have := hT3.aft.g.size; simp; omega); obtain ⟨t0, t1, t2, x0, x1, x2⟩ := hTc2.apart hNR hA3.apart) | (at_builtin; refine wpList_append_lies _ rfl _ _ 23 rfl w.heap.size 28 i0 (.agg #[.int .i64 0, .string ⟨#[]⟩, .int .i64 0]) 3 32 Tryd.underlying23 hi hz0 hz1 hz2 rfl (by decide) _ _ _ rfl (World.ownsRow.alloc (hT4 (.int .i64 1) (.string S)).own _) ⟨w3.heap.size, 0, none⟩ 1 1 [.int .i64 1, .string S, .int .i64 p] rfl rfl (fun j u h => lit_at _ _ (set_size _ _ _ _ _) _ _ j u h) (ones3 _ _ _) (by decide) hm1 hm2 (hW4 _ _ _) (w3.heap.size + 1) (by simp) ?_))
        intro g5 cap5 w5 hown5 hgr5 hwh5 hlt5
        have HT5 := Lib.hid (((hT4 (.int .i64 1) (.string S)).alloc _).app hR 1 S p hown5 hgr5)
        clear hown5 hgr5 hwh5 hlt5
        go_wp2
        go_roundg (if f' = 0 then T.size - q + 1 else 0)
        case rel => exact HSTEP.out.rel HLEN.out HT5.out
        case measure => have := HSTEP.out.less HLE.out; rw [HG.out]; exact this
      · rw [HL.out] at hs HX1
        have hstep : Step T X L p 0 ⟨#[]⟩ p 50 := Step.fault HX1.out (by decide) hs
        have HSTEP := Lib.hid hstep
        have hst2 : st = 7 := hst.trans hs0
        have HF : Hid (∀ wx, Rd wx R T p 0 → Calls Tryd.prog 37 #[.pointer (some ⟨R, 0, none⟩), .int .i64 p, .int .i64 50] wx fun e w' => e = .returned (.tuple #[]) ∧ Aft wx w' R T p 50) := fun wx hx => fail_any R T p 0 p 50 wx hx
        subst hst2
        clear hstep hst hs hs0 hle hll hgw
        go_wp2_with (first | (go_at_call 30; refine (HST.out _ (HTK.out.alloc _)).mono ?_; rintro e w2 ⟨rfl, hT2, hb2⟩; have hTc2 := (Tc.fresh wr p).apart hNR (below_apart hb2 R); obtain ⟨d0, d1, d2, y1, y2⟩ := hT2.aft.r) | (go_at_call 37; refine (HF.out _ hT2.aft.r).mono ?_; rintro e w3 ⟨rfl, hA3⟩; have hT3 := hT2.go hR hA3; have hW3 : ∀ (o : Obj), w.heap.size ≤ (w3.alloc o).heap.size := fun o => (by have := hT3.aft.g.size; simp; omega); obtain ⟨t0, t1, t2, x0, x1, x2⟩ := hTc2.apart hNR hA3.apart) | (at_builtin; refine wpList_append_lies _ rfl _ _ 23 rfl w.heap.size 28 i0 (.agg #[.int .i64 0, .string ⟨#[]⟩, .int .i64 0]) 3 32 Tryd.underlying23 hi hz0 hz1 hz2 rfl (by decide) _ _ _ rfl (World.ownsRow.alloc hT3.own _) ⟨w3.heap.size, 0, none⟩ 1 1 [.int .i64 0, .string ⟨#[]⟩, .int .i64 p] rfl rfl (fun j u h => lit_at _ _ rfl _ _ j u h) (ones3 _ _ _) (by decide) hm1 hm2 (hW3 _) (w3.heap.size + 1) (by simp) ?_))
        intro g5 cap5 w5 hown5 hgr5 hwh5 hlt5
        have HT5 := Lib.hid ((hT3.alloc _).app hR 0 ⟨#[]⟩ p hown5 hgr5)
        clear hown5 hgr5 hwh5 hlt5
        go_wp2
        go_roundg (if (50 : Int) = 0 then T.size - p + 1 else 0)
        case rel => exact HSTEP.out.rel HLEN.out HT5.out
        case measure => have := HSTEP.out.less HLE.out; rw [HG.out]; exact this
      · rw [HL.out] at hs HX1 hpos
        have hstep := Step.tok HX1.out hle hs
        have hsl := signL_le (T.data.toList.drop p)
        rw [List.length_drop] at hsl
        have hTl : T.data.toList.length = T.size := by simp
        obtain ⟨c, t, hct⟩ : ∃ c t, T.data.toList.drop p = c :: t := by
          cases hx : T.data.toList.drop p with
          | nil => rw [HL.out] at hln; exact absurd hx hln
          | cons c t => exact ⟨c, t, rfl⟩
        have hsg : ∀ wx, Calls Tryd.prog 35 #[.string (restS T p)] wx fun e w' => e = .returned (.int .i64 (signL (T.data.toList.drop p))) ∧ w' = wx := fun wx => by
          rw [hct]
          exact signLen_any (restS T p) c t (by rw [restS_list, hct]) wx
        obtain ⟨n, hn⟩ : ∃ n, n = signL (T.data.toList.drop p) := ⟨_, rfl⟩
        rw [← hn] at hstep hsg hsl
        have HSG := Lib.hid hsg
        have HRC : Hid (∀ wx, Tks R T w u3 L p 0 wx → Calls Tryd.prog 36 #[.pointer (some ⟨R, 0, none⟩)] wx fun e w' => e = .returned (.string (restS T p)) ∧ Tks R T w u3 L p 0 w' ∧ Below wx.heap.size wx w') := fun wx hx => (rest_any R T p 0 wx hx.aft.r hle hT).mono fun e w' ⟨h1, k, h2⟩ => ⟨h1, by rw [h2]; exact hx.drewN k, by rw [h2]; exact below_drewN (Below.refl _ _) k⟩
        obtain ⟨S, hS⟩ : ∃ S : ByteArray, S = ⟨((T.data.toList.drop p).take n).toArray⟩ := ⟨_, rfl⟩
        rw [← hS] at hstep
        have HW : Hid (∀ wx, Rd wx R T p 0 → Calls Tryd.prog 34 #[.pointer (some ⟨R, 0, none⟩), .int .i64 n] wx fun e w' => e = .returned (.string S) ∧ Aft wx w' R T (p + n) 0) := fun wx hx => by rw [hS]; exact take_any R T p 0 n wx hx (by omega) hT
        have HSTEP := Lib.hid hstep
        have hst2 : st = 6 := hst.trans hs0
        subst hst2
        obtain ⟨q, hq⟩ : ∃ q, q = p + n := ⟨_, rfl⟩
        rw [← hq] at HSTEP HW
        clear hstep hst hs hs0 hle hll hgw hsl hTl hct hsg hn hS hq hpos
        go_wp2_with (first | (go_at_call 30; refine (HST.out _ (HTK.out.alloc _)).mono ?_; rintro e w2 ⟨rfl, hT2, hb2⟩; have hTc2 := (Tc.fresh wr p).apart hNR (below_apart hb2 R)) | (go_at_call 36; refine (HRC.out _ hT2).mono ?_; rintro e w2b ⟨rfl, hT2b, hb2b⟩; have hTc2b := hTc2.apart hNR (below_apart hb2b R)) | (go_at_call 35; refine (HSG.out _).mono ?_; rintro e w2c ⟨rfl, hw⟩; obtain rfl := hw.symm) | (go_at_call 34; refine (HW.out _ hT2b.aft.r).mono ?_; rintro e w3 ⟨rfl, hA3⟩; have hT3 := hT2b.go hR hA3; have hT4 := fun u v => (hT3.setN HGW.out hR HOB.out 0 u).setN HGW.out hR HOB.out 1 v; have hW4 : ∀ (a b : Value) (o : Obj), w.heap.size ≤ (((w3.setCell ⟨wr.heap.size, 0, none⟩ a).setCell ⟨wr.heap.size, 1, none⟩ b).alloc o).heap.size := fun a b o => (by have := hT3.aft.g.size; simp; omega); obtain ⟨t0, t1, t2, x0, x1, x2⟩ := hTc2b.apart hNR hA3.apart) | (at_builtin; refine wpList_append_lies _ rfl _ _ 23 rfl w.heap.size 28 i0 (.agg #[.int .i64 0, .string ⟨#[]⟩, .int .i64 0]) 3 32 Tryd.underlying23 hi hz0 hz1 hz2 rfl (by decide) _ _ _ rfl (World.ownsRow.alloc (hT4 (.int .i64 4) (.string S)).own _) ⟨w3.heap.size, 0, none⟩ 1 1 [.int .i64 4, .string S, .int .i64 p] rfl rfl (fun j u h => lit_at _ _ (set_size _ _ _ _ _) _ _ j u h) (ones3 _ _ _) (by decide) hm1 hm2 (hW4 _ _ _) (w3.heap.size + 1) (by simp) ?_))
        intro g5 cap5 w5 hown5 hgr5 hwh5 hlt5
        have HT5 := Lib.hid (((hT4 (.int .i64 4) (.string S)).alloc _).app hR 4 S p hown5 hgr5)
        clear hown5 hgr5 hwh5 hlt5
        go_wp2
        go_roundg (if (0 : Int) = 0 then T.size - q + 1 else 0)
        case rel => exact HSTEP.out.rel HLEN.out HT5.out
        case measure => have := HSTEP.out.less HLE.out; rw [HG.out]; exact this
    · have HX1 := Lib.hid hX1
      have hfz : (f == 0) = false := by simpa using hf
      have HF := Lib.hid hf
      clear hX1 hf hg
      go_wp2
      rw [Exit.noGoto_ret]
      go_ret
      exact ⟨_, L, p, f, rfl, HTK.out, by rw [HX1.out]; exact ⟨rfl, rfl, HF.out⟩⟩
end Go.Proofs.YtdafnkfnaknoiaaDoor
