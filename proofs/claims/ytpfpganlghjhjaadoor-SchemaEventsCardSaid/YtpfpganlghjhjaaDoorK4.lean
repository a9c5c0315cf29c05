/- The walk of the law SchemaEvents. -/
import Derived.Test.YtpfpganlghjhjaaDoorB7
import Derived.Deep.CutBlock
import Derived.Deep.DeepCutAuto
import Derived.Deep.CutRange
namespace Go.Proofs.YtpfpganlghjhjaaDoor.lawEvents
open Go.Proofs.YtpfpganlghjhjaaDoor.lawNames (decl_new)
open Go Go.ChangeShapes Go.WideShapes Go.ChangeAt Go.RowKit
set_option maxHeartbeats 10000000
set_option linter.unusedVariables false
set_option linter.unusedSimpArgs false
theorem nums_below {w w' : World} {p : Option Addr} {n : Nat} (h : Nums w p n) (hb : Below w.heap.size w w') : Nums w' p n := by
  intro i hi
  obtain ⟨b, o, x, e, c⟩ := h i hi
  exact ⟨b, o, x, e, (hb.cell (p := ⟨b, o + i, none⟩) (lt_of_cell c)).trans c⟩
theorem atv_form {w : World} {v : Value} {l : List (ByteArray × Int)} (h : AtV w v l) : ∃ p c, v = .slice p l.length c ∧ AtRow w p l := by
  rcases h with ⟨rfl, rfl⟩ | ⟨b, o, c, rfl, _, _, _, h⟩
  · exact ⟨none, 0, rfl, fun i hi => absurd hi (Nat.not_lt_zero _)⟩
  · exact ⟨_, c, rfl, h⟩
theorem infoVal : (Tryd.prog.info? 35).map (fun i => (i.zero, i.size, i.bytes)) = some (some (.agg #[.int .i64 0, .int .i64 0, .string ⟨#[]⟩, .bool false]), 4, 40) := by kernel_rfl
/-- how far the event's values have come: its block E, the row of values behind it -/
def ValsRel (w4 : World) (E : Nat) (l : List (ByteArray × Int)) (tm : Int) (k : Nat) (wr : World) : Prop :=
  ∃ (vl : List V4) (p : Option Addr) (c : Nat), vl.length = k ∧ Made vl l ∧ Below w4.heap.size w4 wr ∧ E < wr.heap.size ∧ wr.cell? ⟨E, 0, none⟩ = some (.string tT) ∧ wr.cell? ⟨E, 1, none⟩ = some (.int .i64 tm) ∧ wr.cell? ⟨E, 2, none⟩ = some (.slice p k c) ∧ wr.frozen? ⟨E, 1, none⟩ = false ∧ wr.frozen? ⟨E, 2, none⟩ = false ∧ wr.ownsRow (E + 1) 35 4 (.slice p k c) k (cells4 vl) ∧ (k = 0 → p = none ∧ c = 0)
theorem own4_below {w w2 : World} {B : Nat} {v : Value} {n : Nat} {xs : List Value} (h : w.ownsRow B 35 4 v n xs) (hb : Below w.heap.size w w2) : w2.ownsRow B 35 4 v n xs := by
  have hg : w.grownBy w2 none := ⟨hb.os, hb.tape, hb.output, hb.size, fun i hi _ => hb.block i hi⟩
  refine h.kept hg ?_
  cases v.ownBlock with
  | none => exact .inl rfl
  | some k => exact .inr (by simp)
theorem own4_set {w : World} {B b o : Nat} {v u : Value} {n : Nat} {xs : List Value} (h : w.ownsRow B 35 4 v n xs) (hb : b < B) : (w.setCell ⟨b, o, none⟩ u).ownsRow B 35 4 v n xs := by
  refine h.kept (grown_set w b o u) ?_
  rcases h.2 with ⟨rfl, _⟩ | ⟨g, cap, cur, rfl, hg, _⟩
  · exact .inl rfl
  · refine .inr fun e => ?_
    simp only [Value.ownBlock, Option.some.injEq] at e
    omega
/-- the event's variable, block E, in this world: its time, its values -/
structure Ev (w4 : World) (E : Nat) (tx : Int) (p : Option Addr) (n c : Nat) (vl : List V4) (wx : World) : Prop where
  b : Below w4.heap.size w4 wx
  lt : E < wx.heap.size
  c0 : wx.cell? ⟨E, 0, none⟩ = some (.string tT)
  c1 : wx.cell? ⟨E, 1, none⟩ = some (.int .i64 tx)
  c2 : wx.cell? ⟨E, 2, none⟩ = some (.slice p n c)
  f1 : wx.frozen? ⟨E, 1, none⟩ = false
  f2 : wx.frozen? ⟨E, 2, none⟩ = false
  own : wx.ownsRow (E + 1) 35 4 (.slice p n c) n (cells4 vl)
theorem Ev.below {w4 : World} {E : Nat} {tx : Int} {p : Option Addr} {n c : Nat} {vl : List V4} {wx w' : World} (h : Ev w4 E tx p n c vl wx) (hb : Below wx.heap.size wx w') : Ev w4 E tx p n c vl w' :=
  ⟨h.b.trans (hb.mono h.b.size), Nat.lt_of_lt_of_le h.lt hb.size, (hb.cell (p := ⟨E, 0, none⟩) h.lt).trans h.c0, (hb.cell (p := ⟨E, 1, none⟩) h.lt).trans h.c1, (hb.cell (p := ⟨E, 2, none⟩) h.lt).trans h.c2, (hb.frozen (p := ⟨E, 1, none⟩) h.lt).trans h.f1, (hb.frozen (p := ⟨E, 2, none⟩) h.lt).trans h.f2, own4_below h.own hb⟩
theorem Ev.time {w4 : World} {E : Nat} {tx : Int} {p : Option Addr} {n c : Nat} {vl : List V4} {wx : World} (h : Ev w4 E tx p n c vl wx) (hE : w4.heap.size ≤ E) (t' : Int) : Ev w4 E t' p n c vl (wx.setCell ⟨E, 1, none⟩ (.int .i64 t')) :=
  ⟨h.b.setCell hE _, by simp [World.setCell]; exact h.lt, by simp [go_sem, h.c0], by simp [go_sem, h.c1], by simp [go_sem, h.c2], by simp [go_sem, h.f1], by simp [go_sem, h.f2], own4_set h.own (Nat.lt_succ_self _)⟩
theorem valrow_take {w : World} {p : Option Addr} {vl : List V4} (h : ValRow w p vl) (j : Nat) : ValRow w p (vl.take j) := by
  intro i hi
  have hi' : i < vl.length := by rw [List.length_take] at hi; omega
  obtain ⟨b, o, e, h1, h2, h3, h4⟩ := h i hi'
  exact ⟨b, o, e, by rw [List.getElem_take]; exact h1, by rw [List.getElem_take]; exact h2, by rw [List.getElem_take]; exact h3, by rw [List.getElem_take]; exact h4⟩
theorem other_kind {wr0 ka : Int} (h0 : 0 ≤ wr0) (h1 : wr0 ≤ 255) (k1 : 1 ≤ ka) (k3 : ka ≤ 3) : (IntKind.i64.wrap (1 + (IntKind.i64.wrap (ka + (IntKind.i64.wrap ((IntKind.i64.wrap wr0).tdiv 2)).tmod 2)).tmod 3) = 1 ∨ IntKind.i64.wrap (1 + (IntKind.i64.wrap (ka + (IntKind.i64.wrap ((IntKind.i64.wrap wr0).tdiv 2)).tmod 2)).tmod 3) = 2 ∨ IntKind.i64.wrap (1 + (IntKind.i64.wrap (ka + (IntKind.i64.wrap ((IntKind.i64.wrap wr0).tdiv 2)).tmod 2)).tmod 3) = 3) ∧ IntKind.i64.wrap (1 + (IntKind.i64.wrap (ka + (IntKind.i64.wrap ((IntKind.i64.wrap wr0).tdiv 2)).tmod 2)).tmod 3) ≠ ka := by
  rw [IntWalk.i64_in wr0 (by omega), Int.tdiv_eq_ediv_of_nonneg (by omega), IntWalk.i64_in (wr0 / 2) (by omega), Int.tmod_eq_emod_of_nonneg (a := wr0 / 2) (by omega), IntWalk.i64_in (ka + wr0 / 2 % 2) (by omega), Int.tmod_eq_emod_of_nonneg (by omega), IntWalk.i64_in _ (by omega)]
  omega
set_option maxRecDepth 100000 in
theorem walk (kp : Option Addr) (kn kc : Nat) (hkn : kn ≤ maxLen) (n0 : Int) (s0 : ByteArray) (hs0 : s0.size ≤ maxLen) (time ix wr0 : Int) (ht : I64 time) (hix : I64 ix) (hwr : 0 ≤ wr0 ∧ wr0 ≤ 255) (W : World) (hK : Kw W) (hN : Nums W kp kn) :
    Calls Tryd.prog 3 #[.slice kp kn kc, .int .i64 n0, .string s0, .int .i64 time, .int .i64 ix, .int .u8 wr0] W fun e w' => e = .returned (.bool true) ∧ Below W.heap.size W w' := by
  obtain ⟨i0, hi, hz0, hz1, hz2⟩ := info_parts infoVal
  have HK := Lib.hid hK
  have HN := Lib.hid hN
  have HKN := Lib.hid hkn
  have HS0 := Lib.hid hs0
  clear hK hN hkn hs0
  go_enter Tryd.func3, Tryd.ntmps3
  go_wp2_with fail
  refine (new_any _).mono ?_
  rintro e w2 ⟨rfl, hb2, hc2⟩
  have B2 := Lib.hid hb2
  have C2 := Lib.hid hc2
  obtain ⟨mB, hmB⟩ : ∃ m, m = W.heap.size := ⟨_, rfl⟩
  rw [← hmB] at C2 ⊢
  have HM : Hid (W.heap.size ≤ mB) := by show _ ≤ _; omega
  clear hb2 hc2 hmB
  go_wp2_with fail
  refine (typed_T kp kn kc HKN.out _ (HK.out.below B2.out) (nums_below HN.out B2.out)).mono ?_
  rintro e w3 ⟨l, v, rfl, hb3, hv3, h16, hgl⟩
  have B3 : Hid (Below W.heap.size W w3) := B2.out.trans (hb3.mono B2.out.size)
  have C3 : Hid (Cat w3 (mB + 1) mB #[] 0) := C2.out.below hb3
  obtain ⟨ap, ac, rfl, har⟩ := atv_form hv3
  obtain ⟨m, hm⟩ : ∃ m, m = l.length := ⟨_, rfl⟩
  have HV3 := Lib.hid hv3
  have HGL := Lib.hid hgl
  have H16 := Lib.hid h16
  have HMM := Lib.hid hm
  rw [← hm]
  clear hb3 hv3 hgl har hm h16
  go_wp2_with fail
  have hD : w3.heap.size < (w3.alloc (Obj.cells #[.string tT, .slice ap m ac] 27)).heap.size := by simp
  have e0 : (w3.alloc (Obj.cells #[.string tT, .slice ap m ac] 27)).cell? ⟨w3.heap.size, 0, none⟩ = some (.string tT) := by simp [go_sem]
  have e1 : (w3.alloc (Obj.cells #[.string tT, .slice ap m ac] 27)).cell? ⟨w3.heap.size, 1, none⟩ = some (.slice ap m ac) := by simp [go_sem]
  have b3 : Below w3.heap.size w3 (w3.alloc (Obj.cells #[.string tT, .slice ap m ac] 27)) := (Below.refl _ _).alloc (Nat.le_refl _) _
  obtain ⟨w3', hw3⟩ : ∃ x, x = w3.alloc (Obj.cells #[.string tT, .slice ap m ac] 27) := ⟨_, rfl⟩
  rw [← hw3] at hD e0 e1 b3 ⊢
  clear hw3
  have HVX : Hid (AtV w3' (.slice ap m ac) l) := by show AtV _ _ _; rw [HMM.out]; exact HV3.out.below b3
  have B3' : Hid (Below W.heap.size W w3') := B3.out.trans (b3.mono B3.out.size)
  have C3' : Hid (Cat w3' (mB + 1) mB #[] 0) := C3.out.below b3
  refine (decl_new (name := tT) (good_decl HGL.out H16.out) (.slice ap m ac) (mB + 1) mB #[] 0 w3' (HK.out.below B3'.out) HVX.out C3'.out (lawNames.found_none _) (by simp)).mono ?_
  rintro e w4 ⟨rfl, hg4, v4, hc4, hv4⟩
  have B4 : Hid (Below W.heap.size W w4) := lawNames.below_grown B3'.out hg4 B3'.out.size HM.out
  have d0 := cell_grown e0 C3'.out.heap hg4
  have d1 := cell_grown e1 C3'.out.heap hg4
  obtain ⟨p4, c4, rfl, har4⟩ := atv_form hv4
  have HR4 := Lib.hid har4
  have HAR : Hid (AtRow w4 ap l) := by
    obtain ⟨p', c', e', h'⟩ := atv_form (HVX.out.grown C3'.out.heap hg4)
    simp only [Value.slice.injEq] at e'
    obtain ⟨rfl, _, _⟩ := e'
    exact h'
  have C4 := Lib.hid hc4
  obtain ⟨D, hDD⟩ : ∃ D, D = w3.heap.size := ⟨_, rfl⟩
  rw [← hDD] at d0 d1 ⊢
  have hD4 : D < w4.heap.size := by have := hg4.size; omega
  clear e0 e1 b3 hg4 hc4 hv4 har4 hD hDD B3 C3 B3' C3' HVX HV3 B2 C2
  go_upto_if 32 with fail
  go_cut [3] from 20 to 37 (fun s3 wx => ∃ t' : Int, s3 = .int .i64 t' ∧ 0 ≤ t' ∧ t' ≤ 9223372036854775807 ∧ wx = w4)
  case first =>
    obtain ⟨ht0, ht1⟩ := ht
    by_cases hneg : time < 0
    · have dneg : decide (time < 0) = true := by simpa using hneg
      go_wp2
      go_meet
      exact ⟨-1 - time, by first | rfl | go_num, by omega, by omega, rfl⟩
    · have dneg : decide (time < 0) = false := by simpa using hneg
      go_wp2
      go_meet
      exact ⟨time, rfl, by omega, by omega, rfl⟩
  case rest =>
  obtain ⟨t', rfl, ht0, ht1, hwc⟩ := hcut
  obtain rfl := hwc.symm
  obtain ⟨tm, htm⟩ : ∃ tm, tm = t' % 4611686018427387905 := ⟨_, rfl⟩
  have HTM : Hid (0 ≤ tm ∧ tm ≤ 4611686018427387904) := by show _ ∧ _; omega
  go_wp2
  rw [← htm]
  obtain ⟨E, hE⟩ : ∃ E, E = w4.heap.size := ⟨_, rfl⟩
  rw [← hE]
  go_loopw [16] (fun i wr => ∃ k : Nat, k ≤ m ∧ i = .int .i64 k ∧ ValsRel w4 E l tm k wr) (fun i _ => m - (intOf i).toNat)
  case atStart =>
    exact ⟨0, Nat.zero_le _, rfl, [], none, 0, rfl, fun i h1 => absurd h1 (Nat.not_lt_zero _), (Below.refl _ _).alloc (Nat.le_refl _) _, by rw [hE]; simp, by rw [hE]; simp [go_sem], by rw [hE]; simp [go_sem], by rw [hE]; simp [go_sem], by rw [hE]; simp [go_sem], by rw [hE]; simp [go_sem], World.ownsRow_nil _ _ _ _, fun _ => ⟨rfl, rfl⟩⟩
  case round =>
    have HEE : Hid (E = w4.heap.size) := hE
    clear hE htm
    obtain ⟨k, hk, rfl, vl, p, c, hlk, hmade, hb, hEl, x0, x1, x2, xf1, xf2, hown, hnil⟩ := hrel
    have HNIL := Lib.hid hnil
    clear hnil
    have hDr := (hb.cell (p := ⟨D, 1, none⟩) (by exact hD4)).trans d1
    have hDl : D < wr.heap.size := by have := hb.size; omega
    have HMD := Lib.hid hmade
    have HLK := Lib.hid hlk
    have HB := Lib.hid hb
    by_cases hlt : k < m
    · have hkl : k < l.length := by rw [← HMM.out]; exact hlt
      obtain ⟨b, o, rfl, c0, c1⟩ := HAR.out k hkl
      have q0 := lt_of_cell c0
      have f1 := (hb.cell (p := ⟨b, o + k * 2 + 1, none⟩) (by exact q0)).trans c1
      have q1 : b < wr.heap.size := by have := hb.size; omega
      obtain ⟨kd, hkd⟩ : ∃ kd, kd = l[k].2 := ⟨_, rfl⟩
      rw [← hkd] at f1
      have HKD := Lib.hid hkd
      have hm16 : m ≤ 16 := by rw [HMM.out]; exact H16.out
      clear hmade hlk hb c0 c1 hkd d0 d1
      go_wp2_with fail
      obtain ⟨V, hV⟩ : ∃ V, V = mk4 kd (wrap64 (n0 + (k : Int))) s0 := ⟨_, rfl⟩
      have hval : Calls Tryd.prog 9 #[.int .i64 kd, .int .i64 (wrap64 (n0 + (k : Int))), .string s0] wr fun e w' => e = .returned (.agg #[.int .i64 V.k, .int .i64 V.n, .string V.s, .bool V.b]) ∧ Below wr.heap.size wr w' := by
        rw [hV]
        exact value_any kd (wrap64 (n0 + (k : Int))) s0 HS0.out wr
      have HVV := Lib.hid hV
      clear hV
      obtain ⟨a1, a2, a3, a4⟩ := V
      refine hval.mono ?_
      rintro e w5 ⟨rfl, hb5⟩
      have y0 := (hb5.cell (p := ⟨E, 0, none⟩) (by exact hEl)).trans x0
      have y1 := (hb5.cell (p := ⟨E, 1, none⟩) (by exact hEl)).trans x1
      have y2 := (hb5.cell (p := ⟨E, 2, none⟩) (by exact hEl)).trans x2
      have yf1 := (hb5.frozen (p := ⟨E, 1, none⟩) (by exact hEl)).trans xf1
      have yf2 := (hb5.frozen (p := ⟨E, 2, none⟩) (by exact hEl)).trans xf2
      have hown5 := own4_below hown hb5
      have zs5 := hb5.size
      have zE5 : E < w5.heap.size := by omega
      have HB5 : Hid (Below w4.heap.size w4 w5) := HB.out.trans (hb5.mono HB.out.size)
      have hne : some E ≠ (Value.slice p k c).ownBlock := by
        intro e
        rcases hown5.2 with ⟨e', _⟩ | ⟨g, cap, cur, e', hg, _⟩
        · rw [e'] at e; cases e
        · rw [e'] at e
          simp only [Value.ownBlock, Option.some.injEq] at e
          omega
      have hm1 : k + 1 ≤ maxLen := by unfold maxLen; omega
      have hm2 : (k + 1) * 40 ≤ 140737488355328 := by omega
      clear hval hb5 x0 x1 x2 xf1 xf2 hown f1 hDr
      go_wp2_with (at_builtin; refine wpList_append_lies _ rfl _ _ 31 rfl (E + 1) 35 i0 (.agg #[.int .i64 0, .int .i64 0, .string ⟨#[]⟩, .bool false]) 4 40 Tryd.underlying31 hi hz0 hz1 hz2 rfl (by decide) (.slice p k c) k (cells4 vl) rfl ((hown5.alloc _).alloc _) ⟨w5.heap.size + 1, 0, none⟩ 1 1 [.int .i64 a1, .int .i64 a2, .string a3, .bool a4] rfl rfl (fun j u h => by have := lit_cells (w5.alloc (Obj.cells #[.int .i64 a1, .int .i64 a2, .string a3, .bool a4] 35)) [.int .i64 a1, .int .i64 a2, .string a3, .bool a4] 35 j u h; simpa using this) (by intro u hu; simp at hu; rcases hu with rfl | rfl | rfl | rfl <;> rfl) (by decide) hm1 hm2 (by simp; omega) (w5.heap.size + 1 + 1) (by simp) ?_; intro g cap w6 hown6 hgrow6 hwhere6 hlt6; have k0 : w6.cell? ⟨E, 0, none⟩ = some (.string tT) := (World.cell?_of_block (a := ⟨E, 0, none⟩) (hgrow6.block E (by simp; omega) hne)).trans (by rw [World.cell?_alloc_past _ _ _ (by simp; omega), World.cell?_alloc_past _ _ _ (by exact zE5)]; exact y0); have k1 : w6.cell? ⟨E, 1, none⟩ = some (.int .i64 tm) := (World.cell?_of_block (a := ⟨E, 1, none⟩) (hgrow6.block E (by simp; omega) hne)).trans (by rw [World.cell?_alloc_past _ _ _ (by simp; omega), World.cell?_alloc_past _ _ _ (by exact zE5)]; exact y1); have k2 : w6.cell? ⟨E, 2, none⟩ = some (.slice p k c) := (World.cell?_of_block (a := ⟨E, 2, none⟩) (hgrow6.block E (by simp; omega) hne)).trans (by rw [World.cell?_alloc_past _ _ _ (by simp; omega), World.cell?_alloc_past _ _ _ (by exact zE5)]; exact y2); have kf1 : w6.frozen? ⟨E, 1, none⟩ = false := (World.frozen?_of_block (a := ⟨E, 1, none⟩) (hgrow6.block E (by simp; omega) hne)).trans (by simp [go_sem, yf1, zE5]); have kf2 : w6.frozen? ⟨E, 2, none⟩ = false := (World.frozen?_of_block (a := ⟨E, 2, none⟩) (hgrow6.block E (by simp; omega) hne)).trans (by simp [go_sem, yf2, zE5]); refine Hid.out ?_)
      refine Lib.hid ?_
      have HOB : ∀ q, (Value.slice p k c).ownBlock = some q → w4.heap.size ≤ q := by
        intro q e
        rcases hown5.2 with ⟨e', _⟩ | ⟨g', cap', cur, e', hg, _⟩
        · rw [e'] at e; cases e
        · rw [e'] at e
          simp only [Value.ownBlock, Option.some.injEq] at e
          have := HEE.out
          omega
      have hB6 : Below w4.heap.size w4 w6 := ((HB5.out.alloc HB5.out.size _).alloc (by have := HB5.out.size; simp; omega) _).grown hgrow6 (by have := HB5.out.size; simp; omega) HOB
      have zs6 := hgrow6.size
      simp at zs6
      have HB6 := Lib.hid hB6
      clear HOB hB6 hgrow6 hwhere6 hown5 y0 y1 y2 yf1 yf2 hne
      go_wp2
      go_roundw
      case rel =>
        refine ⟨k + 1, by omega, by go_num, vl ++ [⟨a1, a2, a3, a4⟩], some ⟨g, 0, none⟩, cap, by simp [HLK.out], ?_, HB6.out.setCell (by rw [← HEE.out]; exact Nat.le_refl _) _, by simp [World.setCell]; omega, by simp [go_sem, k0], by simp [go_sem, k1], by simp [go_sem, k2], by simp [go_sem, kf1], by simp [go_sem, kf2], ?_, fun e => by omega⟩
        · have hm := made_snoc HMD.out (show vl.length < l.length by rw [HLK.out]; exact hkl) (wrap64 (n0 + (k : Int))) s0
          have e : (⟨a1, a2, a3, a4⟩ : V4) = mk4 (l[vl.length]'(by rw [HLK.out]; exact hkl)).2 (wrap64 (n0 + (k : Int))) s0 := by
            have h1 := HVV.out
            have h2 := HKD.out
            simp only [h2] at h1
            simp only [HLK.out]
            exact h1
          rw [e]
          exact hm
        · rw [cells4_snoc]
          exact own4_set hown6 (by omega)
      case measure => simp [intOf]; omega
    · have hkm : k = m := by omega
      have HKM := Lib.hid hkm
      clear hkm
      have hlen : vl.length = l.length := by rw [HLK.out, HKM.out, HMM.out]
      have HLEN := Lib.hid hlen
      have hlm : l.length ≤ maxLen := by have := H16.out; unfold maxLen; omega
      have hk16 : k ≤ 16 := by rw [HKM.out, HMM.out]; exact H16.out
      have HEV : Hid (Ev w4 E tm p k c vl wr) := ⟨HB.out, hEl, x0, x1, x2, xf1, xf2, hown⟩
      have HCK : Hid (∀ wx, Below w4.heap.size w4 wx → ∀ (tx : Int) (q : Option Addr) (cq nq : Nat) (vq : List V4), nq = vq.length → nq ≤ 1000 → ValRow wx q vq → Calls Tryd.prog 10 #[.pointer (some ⟨mB + 1, 0, none⟩), .agg #[.string tT, .int .i64 tx, .slice q nq cq]] wx fun e w' => ∃ E', e = .returned (.int .i64 E') ∧ Below wx.heap.size wx w' ∧ CheckIs tx vq l E') := fun wx hb tx q cq nq vq hq hm hv => by
        subst hq
        exact check_some tT tx q cq vq 0 tT p4 c4 l (mB + 1) mB _ _ wx (by unfold maxLen; omega) hlm (C4.out.below hb) (found_T _) hv (HR4.out.below hb)
      have HCN : Hid (∀ wx, Below w4.heap.size w4 wx → ∀ (tx : Int) (q : Option Addr) (cq nq : Nat), Calls Tryd.prog 10 #[.pointer (some ⟨mB + 1, 0, none⟩), .agg #[.string tt, .int .i64 tx, .slice q nq cq]] wx fun e w' => e = .returned (.int .i64 21) ∧ Below wx.heap.size wx w') := fun wx hb tx q cq nq => check_none tt tx q nq cq (mB + 1) mB _ _ wx (C4.out.below hb) (found_t _)
      have HE4 : Hid (w4.heap.size ≤ E) := by show _ ≤ _; rw [← HEE.out]; exact Nat.le_refl _
      have HEND : Hid (∀ wx, Below w4.heap.size w4 wx → Below W.heap.size W wx) := fun wx hb => B4.out.trans (hb.mono B4.out.size)
      clear hlm hlen
      go_wp2_with fail
      refine (HCK.out wr HEV.out.b tm p c k vl HLK.out.symm (by omega) (valrow_of_own (by rw [HLK.out]; exact HEV.out.own))).mono ?_
      rintro e w7 ⟨E7, rfl, hb7, hchk⟩
      obtain rfl := check_ok hchk HTM.out.1 HTM.out.2 HLEN.out (made_ok HMD.out HGL.out (by rw [HLEN.out]; exact Nat.le_refl _))
      have HEV7 := Lib.hid (HEV.out.below hb7)
      clear hb7 hchk x0 x1 x2 xf1 xf2 hown hDr d0 d1
      obtain ⟨_, _, x0, x1, x2, xf1, xf2, _⟩ := HEV7.out
      go_wp2_with fail
      refine (HCN.out w7 HEV7.out.b tm p c k).mono ?_
      rintro e w8 ⟨rfl, hb8⟩
      have HEV8 := Lib.hid (HEV7.out.below hb8)
      have hEl8 := HEV8.out.lt
      clear hb8 x0 x1 x2 xf1 xf2
      obtain ⟨_, _, x0, x1, x2, xf1, xf2, _⟩ := HEV8.out
      have etm : wrap64 (-1 - tm) = -1 - tm := wrap_id (by have := HTM.out; omega) (by have := HTM.out; omega)
      go_wp2_with fail
      have HEV9 := Lib.hid (HEV8.out.time HE4.out (-1 - tm))
      refine (HCK.out _ HEV9.out.b (-1 - tm) p c k vl HLK.out.symm (by omega) (valrow_of_own (by rw [HLK.out]; exact HEV9.out.own))).mono ?_
      rintro e w9 ⟨E9, rfl, hb9, hchk⟩
      obtain rfl := check_time hchk (.inl (by have := HTM.out; omega))
      have HEV10 := Lib.hid (HEV9.out.below hb9)
      clear hb9 hchk x0 x1 x2 xf1 xf2 etm
      obtain ⟨_, _, x0, x1, x2, xf1, xf2, _⟩ := HEV10.out
      go_wp2_with fail
      have HEV11 := Lib.hid (HEV10.out.time HE4.out 4611686018427387905)
      refine (HCK.out _ HEV11.out.b 4611686018427387905 p c k vl HLK.out.symm (by omega) (valrow_of_own (by rw [HLK.out]; exact HEV11.out.own))).mono ?_
      rintro e w10 ⟨E10, rfl, hb10, hchk⟩
      obtain rfl := check_time hchk (.inr (by omega))
      have HEV12 := Lib.hid (HEV11.out.below hb10)
      clear hb10 hchk x0 x1 x2 xf1 xf2
      obtain ⟨_, _, x0, x1, x2, xf1, xf2, _⟩ := HEV12.out
      go_upto_region 22 with fail
      have hev13 := HEV12.out.time HE4.out 0
      clear x0 x1 x2 xf1 xf2
      obtain ⟨wS, hwS⟩ : ∃ x, x = w10.setCell ⟨E, 1, none⟩ (.int .i64 0) := ⟨_, rfl⟩
      rw [← hwS] at hev13 ⊢
      clear hwS
      have HEV13 := Lib.hid hev13
      clear hev13
      obtain ⟨_, hElS, x0, x1, x2, xf1, xf2, _⟩ := HEV13.out
      by_cases hk0 : k = 0
      · obtain ⟨rfl, rfl⟩ := HNIL.out hk0
        subst hk0
        go_upto_region 23 with fail
        go_wp2_with (at_builtin; refine wpList_append_lies _ rfl _ _ 31 rfl (E + 1) 35 i0 (.agg #[.int .i64 0, .int .i64 0, .string ⟨#[]⟩, .bool false]) 4 40 Tryd.underlying31 hi hz0 hz1 hz2 rfl (by decide) (.slice none 0 0) 0 [] rfl (World.ownsRow_nil _ _ _ _) ⟨wS.heap.size, 0, none⟩ 1 1 [.int .i64 1, .int .i64 0, .string ⟨#[]⟩, .bool false] rfl rfl (fun j u h => lit_cells wS _ _ j u h) (by intro u hu; simp at hu; rcases hu with rfl | rfl | rfl | rfl <;> rfl) (by decide) (by unfold maxLen; omega) (by omega) (by simp; omega) (wS.heap.size + 1) (by simp) ?_; intro g cap w6 hown6 hgrow6 hwhere6 hlt6; refine Hid.out ?_)
        refine Lib.hid ?_
        have hb6 : Below wS.heap.size wS w6 := ((Below.refl _ _).alloc (Nat.le_refl _) _).grown hgrow6 (by simp) (fun q e => by cases e)
        have HEV14 := Lib.hid (HEV13.out.below hb6)
        have HV6 : Hid (ValRow w6 (some ⟨g, 0, none⟩) [⟨1, 0, ⟨#[]⟩, false⟩]) := valrow_of_own (vl := [⟨1, 0, ⟨#[]⟩, false⟩]) hown6
        clear x0 x1 x2 xf1 xf2 hb6 hgrow6 hwhere6 hown6
        obtain ⟨_, _, x0, x1, x2, xf1, xf2, _⟩ := HEV14.out
        go_wp2_with fail
        refine (HCK.out _ HEV14.out.b 0 _ cap 1 [⟨1, 0, ⟨#[]⟩, false⟩] rfl (by omega) HV6.out).mono ?_
        rintro e w11 ⟨E11, rfl, hb11, hchk⟩
        obtain rfl := check_len hchk (by omega) (by omega) (by rw [← HLEN.out, HLK.out]; simp)
        have HEV15 := Lib.hid (HEV14.out.below hb11)
        clear hb11 hchk x0 x1 x2 xf1 xf2
        obtain ⟨_, _, x0, x1, x2, xf1, xf2, _⟩ := HEV15.out
        go_wp2
        go_ret
        exact ⟨rfl, HEND.out _ HEV15.out.b⟩
      · obtain ⟨g, cap0, hform, hg1, hg2⟩ := HEV13.out.own.form (by omega)
        simp only [Value.slice.injEq, true_and] at hform
        obtain ⟨rfl, rfl⟩ := hform
        obtain ⟨j, rfl⟩ : ∃ j, k = j + 1 := ⟨k - 1, by omega⟩
        have hc4 : (cells4 vl).length = (j + 1) * 4 := by rw [cells4_len, HLK.out]
        have hnews := HEV13.out.own.cells (g := g) rfl
        have HOS := HEV13
        go_upto_region 22 with fail
        go_wp2_with (at_builtin; refine wpList_append_lies _ rfl _ _ 31 rfl wS.heap.size 35 i0 (.agg #[.int .i64 0, .int .i64 0, .string ⟨#[]⟩, .bool false]) 4 40 Tryd.underlying31 hi hz0 hz1 hz2 rfl (by decide) (.slice none 0 0) 0 [] rfl (World.ownsRow_nil _ _ _ _) ⟨g, 0, none⟩ (j + 1) c (cells4 vl) rfl hc4 hnews (cells4_one vl) (by omega) (by unfold maxLen; omega) (by omega) (Nat.le_refl _) wS.heap.size rfl ?_; intro g2 cap2 w6 hown6 hgrow6 hwhere6 hlt6; refine Hid.out ?_)
        refine Lib.hid ?_
        simp only [Nat.zero_add, List.nil_append] at hown6
        try rw [Nat.zero_add]
        have hb6 : Below wS.heap.size wS w6 := (Below.refl _ _).grown hgrow6 (Nat.le_refl _) (fun q e => by cases e)
        have zs6 := hb6.size
        have hg2 : wS.heap.size ≤ g2 := by
          rcases hwhere6 with h | h
          · cases h
          · omega
        go_wp2_with (at_builtin; refine wpList_append_lies _ rfl _ _ 31 rfl wS.heap.size 35 i0 (.agg #[.int .i64 0, .int .i64 0, .string ⟨#[]⟩, .bool false]) 4 40 Tryd.underlying31 hi hz0 hz1 hz2 rfl (by decide) (.slice (some ⟨g2, 0, none⟩) (j + 1) cap2) (j + 1) (cells4 vl) rfl (hown6.alloc _) ⟨w6.heap.size, 0, none⟩ 1 1 [.int .i64 1, .int .i64 0, .string ⟨#[]⟩, .bool false] rfl rfl (fun j u h => lit_cells w6 _ _ j u h) (by intro u hu; simp at hu; rcases hu with rfl | rfl | rfl | rfl <;> rfl) (by decide) (by unfold maxLen; omega) (by omega) (by simp; omega) (w6.heap.size + 1) (by simp) ?_; intro g3 cap3 w7b hown7 hgrow7 hwhere7 hlt7; refine Hid.out ?_)
        refine Lib.hid ?_
        have hb7 : Below wS.heap.size wS w7b := (hb6.alloc zs6 _).grown hgrow7 (by simp; omega) (fun q e => by simp only [Value.ownBlock, Option.some.injEq] at e; omega)
        have HEV14 := Lib.hid (HEV13.out.below hb7)
        have HV7 : Hid (ValRow w7b (some ⟨g3, 0, none⟩) (vl ++ [⟨1, 0, ⟨#[]⟩, false⟩])) := by
          refine valrow_of_own (n := j + 1 + 1) (c := cap3) (B := wS.heap.size) ?_
          rw [cells4_snoc, List.length_append, HLK.out]
          exact hown7
        have hcap3 : j + 1 + 1 ≤ cap3 := by
          rcases hown7.2 with ⟨h1, _⟩ | ⟨g', cap', cur, h1, _, _, h2, _⟩
          · cases h1
          · simp only [Value.slice.injEq] at h1
            obtain ⟨_, _, rfl⟩ := h1
            omega
        clear x0 x1 x2 xf1 xf2 hb6 hgrow6 hwhere6 hown6 hb7 hgrow7 hwhere7 hown7 hc4 hnews
        obtain ⟨_, _, x0, x1, x2, xf1, xf2, _⟩ := HEV14.out
        go_wp2_with fail
        refine (HCK.out _ HEV14.out.b 0 _ cap3 (j + 1 + 1) (vl ++ [⟨1, 0, ⟨#[]⟩, false⟩]) (by simp [HLK.out]) (by omega) HV7.out).mono ?_
        rintro e w11 ⟨E11, rfl, hb11, hchk⟩
        obtain rfl := check_len hchk (by omega) (by omega) (by rw [← HLEN.out]; simp)
        have HEV15 := Lib.hid (HEV14.out.below hb11)
        have HV8 := Lib.hid (HV7.out.below hb11)
        clear hb11 hchk x0 x1 x2 xf1 xf2
        obtain ⟨_, _, x0, x1, x2, xf1, xf2, _⟩ := HEV15.out
        have v0 : (0 : Int) ≤ (j : Int) := by omega
        have v1 : (j : Int) ≤ (cap3 : Int) := by omega
        go_wp2_with fail
        refine (HCK.out _ HEV15.out.b 0 _ cap3 j (List.take j (vl ++ [(⟨1, 0, ⟨#[]⟩, false⟩ : V4)])) (by simp [HLK.out]; omega) (by omega) (valrow_take HV8.out j)).mono ?_
        rintro e w12 ⟨E12, rfl, hb12, hchk⟩
        obtain rfl := check_len hchk (by omega) (by omega) (by rw [← HLEN.out, List.length_take]; simp [HLK.out]; omega)
        have HEV16 := Lib.hid (HEV15.out.below hb12)
        clear hb12 hchk x0 x1 x2 xf1 xf2
        obtain ⟨_, _, x0, x1, x2, xf1, xf2, _⟩ := HEV16.out
        go_wp2_with fail
        refine (part_any ix ((j : Int) + 1) ⟨by omega, by omega⟩ _).mono ?_
        rintro e w13 ⟨rfl, hw13⟩
        obtain rfl := hw13.symm
        obtain ⟨a, ha⟩ : ∃ a : Nat, (a : Int) = ix % ((j : Int) + 1) := ⟨(ix % ((j : Int) + 1)).toNat, Int.toNat_of_nonneg (Int.emod_nonneg _ (by omega))⟩
        have haj : a < j + 1 := by have := Int.emod_lt_of_pos ix (show (0 : Int) < (j : Int) + 1 by omega); omega
        rw [← ha]
        clear ha v0 v1
        have hal : a < vl.length := by rw [HLK.out]; exact haj
        have hall : a < l.length := by rw [← HLEN.out]; exact hal
        obtain ⟨r0, r1, r2, r3⟩ := cells4_at vl a hal
        have q0 := HEV16.out.own.cells (g := g) rfl _ _ r0
        have q1 := HEV16.out.own.cells (g := g) rfl _ _ r1
        have q2 := HEV16.out.own.cells (g := g) rfl _ _ r2
        have q3 := HEV16.out.own.cells (g := g) rfl _ _ r3
        rw [Addr.add_lit, Nat.zero_add] at q0 q1 q2 q3
        obtain ⟨nv, sv, hmk⟩ := HMD.out a hal hall
        have hkind := (HGL.out a hall).2
        obtain ⟨ka, hka⟩ : ∃ ka, ka = (l[a]'hall).2 := ⟨_, rfl⟩
        rw [← hka] at hmk hkind
        rw [hmk] at q0 q1 q2 q3
        have hvk : (mk4 ka nv sv).k = ka := (value_valid ka nv sv hkind).2
        rw [hvk] at q0
        have HKA := Lib.hid hka
        have HMK := Lib.hid hmk
        have HKIND := Lib.hid hkind
        have hgl : g < w12.heap.size := lt_of_cell q0
        have v0 : (0 : Int) ≤ (a : Int) := by omega
        have v1 : (a : Int) < (j : Int) + 1 := by omega
        clear r0 r1 r2 r3 hmk hkind hka hvk
        have hwx : wr0 % 2 = 0 ∨ wr0 % 2 = 1 := by omega
        rcases hwx with hwx | hwx
        · have dw : (wr0 % 2 == 0) = true := by simp [hwx]
          have HWX := Lib.hid hwx
          clear hwx
          obtain ⟨hwr0, hwr1⟩ := hwr
          have qf0 := own4_frozen HEV16.out.own (a * 4)
          have qf1 := own4_frozen HEV16.out.own (a * 4 + 1)
          have qf2 := own4_frozen HEV16.out.own (a * 4 + 2)
          have qf3 := own4_frozen HEV16.out.own (a * 4 + 3)
          have hka3 : 1 ≤ ka ∧ ka ≤ 3 := by have := HKIND.out; omega
          obtain ⟨h1k, h3k⟩ := hka3
          go_wp2_with fail
          go_region_with (go_at_call 9; refine (value_any _ 0 ⟨#[]⟩ (by decide) _).mono ?_; rintro e w9 ⟨rfl, hb9⟩; have p2 : w9.cell? ⟨E, 2, none⟩ = some (.slice (some ⟨g, 0, none⟩) (j + 1) c) := (hb9.cell (p := ⟨E, 2, none⟩) (by exact HEV16.out.lt)).trans x2; have p0 := (hb9.cell (p := ⟨g, a * 4, none⟩) (by exact hgl)).trans q0; have p1 := (hb9.cell (p := ⟨g, a * 4 + 1, none⟩) (by exact hgl)).trans q1; have p2' := (hb9.cell (p := ⟨g, a * 4 + 2, none⟩) (by exact hgl)).trans q2; have p3 := (hb9.cell (p := ⟨g, a * 4 + 3, none⟩) (by exact hgl)).trans q3; have g0 := (hb9.frozen (p := ⟨g, a * 4, none⟩) (by exact hgl)).trans qf0; have g1 := (hb9.frozen (p := ⟨g, a * 4 + 1, none⟩) (by exact hgl)).trans qf1; have g2 := (hb9.frozen (p := ⟨g, a * 4 + 2, none⟩) (by exact hgl)).trans qf2; have g3' := (hb9.frozen (p := ⟨g, a * 4 + 3, none⟩) (by exact hgl)).trans qf3)
          all_goals
            have hXk := other_kind hwr0 hwr1 h1k h3k
            generalize IntKind.i64.wrap (1 + (IntKind.i64.wrap (ka + (IntKind.i64.wrap ((IntKind.i64.wrap wr0).tdiv 2)).tmod 2)).tmod 3) = X at hXk ⊢
            have HXK := Lib.hid hXk
            have hb12 : Below w12.heap.size w12 w9 := ((Below.refl _ _).drew).trans hb9
            have HEV17 := Lib.hid (HEV16.out.below hb12)
            have hB12 : Below w4.heap.size w4 ((((w9.setCell ⟨g, a * 4, none⟩ (.int .i64 (vK X))).setCell ⟨g, a * 4 + 1, none⟩ (.int .i64 (vN X 0))).setCell ⟨g, a * 4 + 2, none⟩ (.string (vS X ⟨#[]⟩))).setCell ⟨g, a * 4 + 3, none⟩ (.bool (vB X 0))) := by
              have hgg : w4.heap.size ≤ g := by have := HE4.out; omega
              exact (((HEV17.out.b.setCell hgg _).setCell hgg _).setCell hgg _).setCell hgg _
            have HV9 : Hid (ValRow ((((w9.setCell ⟨g, a * 4, none⟩ (.int .i64 (vK X))).setCell ⟨g, a * 4 + 1, none⟩ (.int .i64 (vN X 0))).setCell ⟨g, a * 4 + 2, none⟩ (.string (vS X ⟨#[]⟩))).setCell ⟨g, a * 4 + 3, none⟩ (.bool (vB X 0))) (some ⟨g, 0, none⟩) (vl.set a ⟨vK X, vN X 0, vS X ⟨#[]⟩, vB X 0⟩)) := by
              refine valrow_set (w := w9) (valrow_of_own (by rw [HLK.out]; exact HEV17.out.own)) _ (fun i jj hi hj => ?_) ?_ ?_ ?_ ?_
              · rw [World.cell?_setCell_other _ _ _ _ (fun e => by simp only [Addr.mk.injEq, true_and, and_true] at e; omega), World.cell?_setCell_other _ _ _ _ (fun e => by simp only [Addr.mk.injEq, true_and, and_true] at e; omega), World.cell?_setCell_other _ _ _ _ (fun e => by simp only [Addr.mk.injEq, true_and, and_true] at e; omega), World.cell?_setCell_other _ _ _ _ (fun e => by simp only [Addr.mk.injEq, true_and, and_true] at e; omega)]
              · rw [World.cell?_setCell_other _ _ _ _ (fun e => by simp only [Addr.mk.injEq, true_and, and_true] at e; omega), World.cell?_setCell_other _ _ _ _ (fun e => by simp only [Addr.mk.injEq, true_and, and_true] at e; omega), World.cell?_setCell_other _ _ _ _ (fun e => by simp only [Addr.mk.injEq, true_and, and_true] at e; omega)]
                exact World.cell?_setCell_same _ _ _ p0
              · rw [World.cell?_setCell_other _ _ _ _ (fun e => by simp only [Addr.mk.injEq, true_and, and_true] at e; omega), World.cell?_setCell_other _ _ _ _ (fun e => by simp only [Addr.mk.injEq, true_and, and_true] at e; omega)]
                exact World.cell?_setCell_same _ _ _ ((World.cell?_setCell_other _ _ _ _ (fun e => by simp only [Addr.mk.injEq, true_and, and_true] at e; omega)).trans p1)
              · rw [World.cell?_setCell_other _ _ _ _ (fun e => by simp only [Addr.mk.injEq, true_and, and_true] at e; omega)]
                exact World.cell?_setCell_same _ _ _ ((World.cell?_setCell_other _ _ _ _ (fun e => by simp only [Addr.mk.injEq, true_and, and_true] at e; omega)).trans ((World.cell?_setCell_other _ _ _ _ (fun e => by simp only [Addr.mk.injEq, true_and, and_true] at e; omega)).trans p2'))
              · exact World.cell?_setCell_same _ _ _ ((World.cell?_setCell_other _ _ _ _ (fun e => by simp only [Addr.mk.injEq, true_and, and_true] at e; omega)).trans ((World.cell?_setCell_other _ _ _ _ (fun e => by simp only [Addr.mk.injEq, true_and, and_true] at e; omega)).trans ((World.cell?_setCell_other _ _ _ _ (fun e => by simp only [Addr.mk.injEq, true_and, and_true] at e; omega)).trans p3)))
            have hEg : E < g := by omega
            have hEg' : E ≠ g := by omega
            have hgE : g ≠ E := by omega
            have n0 := HEV17.out.c0
            have n1 := HEV17.out.c1
            clear p0 p1 p2' p3 g0 g1 g2 g3' hb9 hb12 hXk q0 q1 q2 q3 qf0 qf1 qf2 qf3
            go_wp2_with fail
            refine (HCK.out _ hB12 0 (some ⟨g, 0, none⟩) c (j + 1) (vl.set a ⟨vK X, vN X 0, vS X ⟨#[]⟩, vB X 0⟩) (by simp [HLK.out]) (by omega) HV9.out).mono ?_
            rintro e w14 ⟨E14, rfl, hb14, hchk⟩
            obtain rfl := check_bad (F := 10) hchk (by omega) (by omega) (by simp [HLEN.out]) (a := a) (by simpa using hal) (by rw [valAt_set hal HLEN.out, ← HKA.out]; exact valF_kind (by show vK X ≠ ka; rw [(value_valid X 0 ⟨#[]⟩ HXK.out.1).2]; exact HXK.out.2)) (by decide) (fun i hi hia => by rw [valAt_set_ne hia]; exact made_ok HMD.out HGL.out (by rw [HLEN.out]; exact Nat.le_refl _) i (by simpa using hi))
            have HZ : Hid (Below W.heap.size W w14) := HEND.out _ (hB12.trans (hb14.mono hB12.size))
            clear hb14 hchk
            go_wp2
            go_ret
            exact ⟨rfl, HZ.out⟩
        · have dw : (wr0 % 2 == 0) = false := by simp [hwx]
          have HWX := Lib.hid hwx
          clear hwx
          have qf1 := own4_frozen HEV16.out.own (a * 4 + 1)
          have qf2 := own4_frozen HEV16.out.own (a * 4 + 2)
          have hEg : E < g := by omega
          have hEg' : E ≠ g := by omega
          have hgE : g ≠ E := by omega
          by_cases hk1 : ka = 1
          · have dk : (ka == 1) = true := by simp [hk1]
            have HK1 := Lib.hid hk1
            clear hk1
            go_wp2_with fail
            have hB12 : Below w4.heap.size w4 (w12.setCell ⟨g, a * 4 + 2, none⟩ (.string ⟨#[120]⟩)) := HEV16.out.b.setCell (by show w4.heap.size ≤ g; have := HE4.out; omega) _
            have HV9 : Hid (ValRow (w12.setCell ⟨g, a * 4 + 2, none⟩ (.string ⟨#[120]⟩)) (some ⟨g, 0, none⟩) (vl.set a ⟨ka, vN ka nv, ⟨#[120]⟩, vB ka nv⟩)) := by
              refine valrow_set (valrow_of_own (by rw [HLK.out]; exact HEV16.out.own)) _ (fun i jj hi hj => World.cell?_setCell_other _ _ _ _ (fun e => by simp only [Addr.mk.injEq, true_and, and_true] at e; omega)) ?_ ?_ ?_ ?_
              · exact (World.cell?_setCell_other _ _ _ _ (fun e => by simp only [Addr.mk.injEq, true_and, and_true] at e; omega)).trans q0
              · exact (World.cell?_setCell_other _ _ _ _ (fun e => by simp only [Addr.mk.injEq, true_and, and_true] at e; omega)).trans q1
              · exact World.cell?_setCell_same _ _ _ q2
              · exact (World.cell?_setCell_other _ _ _ _ (fun e => by simp only [Addr.mk.injEq, true_and, and_true] at e; omega)).trans q3
            refine (HCK.out _ hB12 0 (some ⟨g, 0, none⟩) c (j + 1) (vl.set a ⟨ka, vN ka nv, ⟨#[120]⟩, vB ka nv⟩) (by simp [HLK.out]) (by omega) HV9.out).mono ?_
            rintro e w14 ⟨E14, rfl, hb14, hchk⟩
            obtain rfl := check_bad (F := 12) hchk (by omega) (by omega) (by simp [HLEN.out]) (a := a) (by simpa using hal) (by rw [valAt_set hal HLEN.out, ← HKA.out]; exact (by have := valF_str (n := nv) (s := sv) (x := ⟨#[120]⟩) HK1.out (by rw [ByteArray.toList_eq]; decide); rw [show vK ka = ka from (value_valid ka nv sv HKIND.out).2] at this; exact this)) (by decide) (fun i hi hia => by rw [valAt_set_ne hia]; exact made_ok HMD.out HGL.out (by rw [HLEN.out]; exact Nat.le_refl _) i (by simpa using hi))
            have HZ : Hid (Below W.heap.size W w14) := HEND.out _ (hB12.trans (hb14.mono hB12.size))
            clear hb14 hchk
            go_wp2
            go_ret
            exact ⟨rfl, HZ.out⟩
          · have dk : (ka == 1) = false := by simp [hk1]
            have HK1 := Lib.hid hk1
            clear hk1
            go_wp2_with fail
            have hB12 : Below w4.heap.size w4 (w12.setCell ⟨g, a * 4 + 1, none⟩ (.int .i64 5)) := HEV16.out.b.setCell (by show w4.heap.size ≤ g; have := HE4.out; omega) _
            have HV9 : Hid (ValRow (w12.setCell ⟨g, a * 4 + 1, none⟩ (.int .i64 5)) (some ⟨g, 0, none⟩) (vl.set a ⟨ka, 5, vS ka sv, vB ka nv⟩)) := by
              refine valrow_set (valrow_of_own (by rw [HLK.out]; exact HEV16.out.own)) _ (fun i jj hi hj => World.cell?_setCell_other _ _ _ _ (fun e => by simp only [Addr.mk.injEq, true_and, and_true] at e; omega)) ?_ ?_ ?_ ?_
              · exact (World.cell?_setCell_other _ _ _ _ (fun e => by simp only [Addr.mk.injEq, true_and, and_true] at e; omega)).trans q0
              · exact World.cell?_setCell_same _ _ _ q1
              · exact (World.cell?_setCell_other _ _ _ _ (fun e => by simp only [Addr.mk.injEq, true_and, and_true] at e; omega)).trans q2
              · exact (World.cell?_setCell_other _ _ _ _ (fun e => by simp only [Addr.mk.injEq, true_and, and_true] at e; omega)).trans q3
            refine (HCK.out _ hB12 0 (some ⟨g, 0, none⟩) c (j + 1) (vl.set a ⟨ka, 5, vS ka sv, vB ka nv⟩) (by simp [HLK.out]) (by omega) HV9.out).mono ?_
            rintro e w14 ⟨E14, rfl, hb14, hchk⟩
            obtain rfl := check_bad (F := 12) hchk (by omega) (by omega) (by simp [HLEN.out]) (a := a) (by simpa using hal) (by rw [valAt_set hal HLEN.out, ← HKA.out]; exact (by have := valF_int (n := nv) (s := sv) (show ka = 2 ∨ ka = 3 by have := HKIND.out; have := HK1.out; omega); rw [show vK ka = ka from (value_valid ka nv sv HKIND.out).2] at this; exact this)) (by decide) (fun i hi hia => by rw [valAt_set_ne hia]; exact made_ok HMD.out HGL.out (by rw [HLEN.out]; exact Nat.le_refl _) i (by simpa using hi))
            have HZ : Hid (Below W.heap.size W w14) := HEND.out _ (hB12.trans (hb14.mono hB12.size))
            clear hb14 hchk
            go_wp2
            go_ret
            exact ⟨rfl, HZ.out⟩
end Go.Proofs.YtpfpganlghjhjaaDoor.lawEvents
