/- The walk of the law ValueOps. -/
import Derived.Test.YtcjibjiojgikjaaDoorO1
import Derived.Test.YtcjibjiojgikjaaDoorE11
import Derived.Test.YtcjibjiojgikjaaDoorE7
import Derived.Test.YtcjibjiojgikjaaDoorE5
import Derived.Test.YtcjibjiojgikjaaDoorV3
import Derived.WalkKit
import Derived.WalkSpells
import Derived.WalkLawsBesides
import Derived.Lib.Hide
import Derived.LoopN
import Derived.LoopTactic
import Derived.Deep.RegionHeld3
import Derived.Deep.DeepCutAuto
import Derived.Deep.CutRange
import Derived.Deep.LoopGhost
namespace Go.Proofs.YtcjibjiojgikjaaDoor.lawOps
open Go Go.ChangeShapes Go.WideShapes Go.ChangeAt Go.RowKit
set_option maxHeartbeats 10000000
set_option linter.unusedVariables false
set_option linter.unusedSimpArgs false
attribute [local go_sem ↓] run_eql_V run_neq_V
theorem held_below {n : Nat} {a w : World} {A : Prop} (h : Below n a w ∧ A) : Below n a w := h.1
theorem held_on {a w w' : World} {A : Prop} (h : Below a.heap.size a w ∧ A) (hb : Below w.heap.size w w') : Below a.heap.size a w' := h.1.trans (hb.mono h.1.size)
/-- a call answers this in every world that is fit -/
def Says (f : FuncId) (args : Array Value) (r : Value) (W : World) : Prop := ∀ w, Ok W w → Calls Tryd.prog f args w fun e w' => e = .returned r ∧ Below w.heap.size w w'
theorem both_cmp (k n : Int) (s : ByteArray) (b : Bool) (k' n' : Int) (s' : ByteArray) (b' : Bool) (hz : s.size ≤ maxLen) (W : World) :
    ∃ c : Int, Says 15 #[.agg #[.int .i64 k, .int .i64 n, .string s, .bool b], .agg #[.int .i64 k', .int .i64 n', .string s', .bool b']] (.int .i64 c) W ∧ Says 24 #[.agg #[.int .i64 k, .int .i64 n, .string s, .bool b], .agg #[.int .i64 k', .int .i64 n', .string s', .bool b']] (.int .i64 c) W :=
  ⟨_, fun w hw => compare_any k n s b k' n' s' b' w, fun w hw => compare_r k n s b k' n' s' b' hz w⟩
theorem both_bin (op k n : Int) (s : ByteArray) (b : Bool) (k' n' : Int) (s' : ByteArray) (b' : Bool) (hz : s.size ≤ maxLen) (W : World) :
    ∃ (K N : Int) (S : ByteArray) (T : Bool) (E : Int), Says 20 #[.int .i64 op, .agg #[.int .i64 k, .int .i64 n, .string s, .bool b], .agg #[.int .i64 k', .int .i64 n', .string s', .bool b']] (.tuple #[.agg #[.int .i64 K, .int .i64 N, .string S, .bool T], .int .i64 E]) W ∧ Says 25 #[.int .i64 op, .agg #[.int .i64 k, .int .i64 n, .string s, .bool b], .agg #[.int .i64 k', .int .i64 n', .string s', .bool b']] (.tuple #[.agg #[.int .i64 K, .int .i64 N, .string S, .bool T], .int .i64 E]) W :=
  ⟨_, _, _, _, _, fun w hw => binary_any w hw.inv.rules op k n s b k' n' s' b', fun w hw => binary_r op k n s b k' n' s' b' hz w⟩
theorem both_un (op k n : Int) (s : ByteArray) (b : Bool) (W : World) :
    ∃ (K N : Int) (S : ByteArray) (T : Bool) (E : Int), Says 18 #[.int .i64 op, .agg #[.int .i64 k, .int .i64 n, .string s, .bool b]] (.tuple #[.agg #[.int .i64 K, .int .i64 N, .string S, .bool T], .int .i64 E]) W ∧ Says 26 #[.int .i64 op, .agg #[.int .i64 k, .int .i64 n, .string s, .bool b]] (.tuple #[.agg #[.int .i64 K, .int .i64 N, .string S, .bool T], .int .i64 E]) W :=
  ⟨_, _, _, _, _, fun w hw => unary_any w hw.inv.rules op k n s b, fun w hw => unary_r op k n s b w⟩
/-- the cells of one value -/
def Cells4 (w : World) (B o : Nat) (k n : Int) (s : ByteArray) (t : Bool) : Prop :=
  w.cell? ⟨B, o, none⟩ = some (.int .i64 k) ∧ w.cell? ⟨B, o + 1, none⟩ = some (.int .i64 n) ∧ w.cell? ⟨B, o + 2, none⟩ = some (.string s) ∧ w.cell? ⟨B, o + 3, none⟩ = some (.bool t)
theorem Cells4.below {w w' : World} {B o : Nat} {k n : Int} {s : ByteArray} {t : Bool} (h : Cells4 w B o k n s t) {m : Nat} (hB : B < m) (hb : Below m w w') : Cells4 w' B o k n s t :=
  ⟨(hb.cell (p := ⟨B, o, none⟩) hB).trans h.1, (hb.cell (p := ⟨B, o + 1, none⟩) hB).trans h.2.1, (hb.cell (p := ⟨B, o + 2, none⟩) hB).trans h.2.2.1, (hb.cell (p := ⟨B, o + 3, none⟩) hB).trans h.2.2.2⟩
/-- the cells of a variable -/
def Cells0 (w : World) (B : Nat) (k n : Int) (s : ByteArray) (t : Bool) : Prop :=
  w.cell? ⟨B, 0, none⟩ = some (.int .i64 k) ∧ w.cell? ⟨B, 1, none⟩ = some (.int .i64 n) ∧ w.cell? ⟨B, 2, none⟩ = some (.string s) ∧ w.cell? ⟨B, 3, none⟩ = some (.bool t)
theorem Cells0.below {w w' : World} {B : Nat} {k n : Int} {s : ByteArray} {t : Bool} (h : Cells0 w B k n s t) {m : Nat} (hB : B < m) (hb : Below m w w') : Cells0 w' B k n s t :=
  ⟨(hb.cell (p := ⟨B, 0, none⟩) hB).trans h.1, (hb.cell (p := ⟨B, 1, none⟩) hB).trans h.2.1, (hb.cell (p := ⟨B, 2, none⟩) hB).trans h.2.2.1, (hb.cell (p := ⟨B, 3, none⟩) hB).trans h.2.2.2⟩
set_option maxRecDepth 100000 in
theorem walk (p0 p1 : Option Addr) (l0 c0 l1 c1 : Nat) (hl0 : l0 ≤ maxLen) (hl1 : l1 ≤ maxLen) (W : World) (hN : Nums W p0 l0) (hV : ValsB W p1 l1) (hI : Inv W) :
    Calls Tryd.prog 9 #[.slice p0 l0 c0, .slice p1 l1 c1] W fun e w' => e = .returned (.bool true) ∧ Below W.heap.size W w' := by
  have HN := Lib.hid hN
  have HV := Lib.hid hV
  have H0 : Hid (Ok W W) := Ok.start hI
  clear hV hN hI
  unfold maxLen at hl0 hl1
  go_enter Tryd.func9, Tryd.ntmps9
  go_wp2_with (go_at_call 11; refine (begun_ok W _ H0.out).mono ?_; rintro e w' ⟨rfl, h⟩; refine Hid.out ?_)
  refine Lib.hid ?_
  go_wp2
  go_loopw [6] (fun i wr => ∃ k : Nat, k ≤ l1 ∧ i = .int .i64 k ∧ Ok W wr) (fun i _ => l1 - (intOf i).toNat)
  case atStart => exact ⟨0, Nat.zero_le _, rfl, h⟩
  case round =>
    obtain ⟨k, hk, rfl, hok⟩ := hrel
    by_cases hlt : k < l1
    · have HK := Lib.hid hok
      clear hok
      go_wp2
      go_loopw [7] (fun i wr => ∃ j : Nat, j ≤ l1 ∧ i = .int .i64 j ∧ Ok W wr) (fun i _ => l1 - (intOf i).toNat)
      case atStart => exact ⟨0, Nat.zero_le _, rfl, HK.out⟩
      case round =>
        obtain ⟨j, hj, rfl, hok⟩ := hrel
        by_cases hlj : j < l1
        · obtain ⟨b, o, K1, N1, S1, T1, rfl, hn1, hz1, a0, a1, a2, a3⟩ := HV.out k hlt
          obtain ⟨b', o', K2, N2, S2, T2, hbb, hn2, hz2, d0, d1, d2, d3⟩ := HV.out j hlj
          simp only [Option.some.injEq, Addr.mk.injEq, and_true] at hbb
          obtain ⟨rfl, rfl⟩ := hbb
          have z0 := lt_of_cell a0
          have HA : Hid (Cells4 W b (o + k * 4) K1 N1 S1 T1) := ⟨a0, a1, a2, a3⟩
          have HD : Hid (Cells4 W b (o + j * 4) K2 N2 S2 T2) := ⟨d0, d1, d2, d3⟩
          clear a0 a1 a2 a3 d0 d1 d2 d3 hn1 hn2 hz2
          have HZ := Lib.hid hz1
          clear hz1
          have HCL : Hid (∀ w0, Ok W w0 → ∀ w, Below w0.heap.size w0 w → Below w0.heap.size w0 w ∧ w.cell? ⟨b, o + k * 4, none⟩ = some (.int .i64 K1) ∧ w.cell? ⟨b, o + k * 4 + 1, none⟩ = some (.int .i64 N1) ∧ w.cell? ⟨b, o + k * 4 + 2, none⟩ = some (.string S1) ∧ w.cell? ⟨b, o + k * 4 + 3, none⟩ = some (.bool T1) ∧ w.cell? ⟨b, o + j * 4, none⟩ = some (.int .i64 K2) ∧ w.cell? ⟨b, o + j * 4 + 1, none⟩ = some (.int .i64 N2) ∧ w.cell? ⟨b, o + j * 4 + 2, none⟩ = some (.string S2) ∧ w.cell? ⟨b, o + j * 4 + 3, none⟩ = some (.bool T2)) := fun w0 hw0 w hw => by
            have hb := hw0.below.trans (hw.mono hw0.below.size)
            obtain ⟨x0, x1, x2, x3⟩ := HA.out.below z0 hb
            obtain ⟨y0, y1, y2, y3⟩ := HD.out.below z0 hb
            exact ⟨hw, x0, x1, x2, x3, y0, y1, y2, y3⟩
          obtain ⟨c, hc1, hc2⟩ := both_cmp K1 N1 S1 T1 K2 N2 S2 T2 HZ.out W
          have HC1 := Lib.hid hc1
          have HC2 := Lib.hid hc2
          have HK1 := Lib.hid hok
          clear hok hc1 hc2
          go_upto_region 10 with fail
          go_cut [8] from 28 to 134 (fun s wx => s = .int .i64 c ∧ Ok W wx)
          case first =>
            go_region_held3 (fun w => Below wr.heap.size wr w ∧ w.cell? ⟨b, o + k * 4, none⟩ = some (.int .i64 K1) ∧ w.cell? ⟨b, o + k * 4 + 1, none⟩ = some (.int .i64 N1) ∧ w.cell? ⟨b, o + k * 4 + 2, none⟩ = some (.string S1) ∧ w.cell? ⟨b, o + k * 4 + 3, none⟩ = some (.bool T1) ∧ w.cell? ⟨b, o + j * 4, none⟩ = some (.int .i64 K2) ∧ w.cell? ⟨b, o + j * 4 + 1, none⟩ = some (.int .i64 N2) ∧ w.cell? ⟨b, o + j * 4 + 2, none⟩ = some (.string S2) ∧ w.cell? ⟨b, o + j * 4 + 3, none⟩ = some (.bool T2))
              ((refine HCL.out wr HK1.out _ ?_; first | assumption | exact (Below.refl _ _).drew | exact held_below (by assumption)))
              (first | (go_at_call 15; refine (HC1.out _ (HK1.out.on (held_below (by assumption)))).mono ?_; rintro e w9 ⟨rfl, hb9⟩; have hB9 : Below wr.heap.size wr w9 := held_on (by assumption) hb9))
            all_goals
              go_wp2_with fail
              go_meet
              exact ⟨rfl, HK1.out.on hB9⟩
          case rest =>
          obtain ⟨rfl, hwc⟩ := hcut
          obtain ⟨wa, ewd⟩ : ∃ x, x = wc := ⟨_, rfl⟩
          subst ewd
          have HK2 := Lib.hid hwc
          clear hwc
          go_upto_region 11 with fail
          go_cut [9] from 28 to 134 (fun s wx => s = .int .i64 c ∧ Ok W wx)
          case first =>
            go_region_held3 (fun w => Below wa.heap.size wa w ∧ w.cell? ⟨b, o + k * 4, none⟩ = some (.int .i64 K1) ∧ w.cell? ⟨b, o + k * 4 + 1, none⟩ = some (.int .i64 N1) ∧ w.cell? ⟨b, o + k * 4 + 2, none⟩ = some (.string S1) ∧ w.cell? ⟨b, o + k * 4 + 3, none⟩ = some (.bool T1) ∧ w.cell? ⟨b, o + j * 4, none⟩ = some (.int .i64 K2) ∧ w.cell? ⟨b, o + j * 4 + 1, none⟩ = some (.int .i64 N2) ∧ w.cell? ⟨b, o + j * 4 + 2, none⟩ = some (.string S2) ∧ w.cell? ⟨b, o + j * 4 + 3, none⟩ = some (.bool T2))
              ((refine HCL.out wa HK2.out _ ?_; first | assumption | exact (Below.refl _ _).drew | exact held_below (by assumption)))
              (first | (go_at_call 24; refine (HC2.out _ (HK2.out.on (held_below (by assumption)))).mono ?_; rintro e w9 ⟨rfl, hb9⟩; have hB9 : Below wa.heap.size wa w9 := held_on (by assumption) hb9))
            all_goals
              go_wp2_with fail
              go_meet
              exact ⟨rfl, HK2.out.on hB9⟩
          case rest =>
          obtain ⟨rfl, hwc⟩ := hcut
          obtain ⟨wb, ewd⟩ : ∃ x, x = wc := ⟨_, rfl⟩
          subst ewd
          have HK3 := Lib.hid hwc
          clear hwc
          go_wp2
          go_loopw [10] (fun i wr => ∃ m : Nat, m ≤ l0 ∧ i = .int .i64 m ∧ Ok W wr) (fun i _ => l0 - (intOf i).toNat)
          case atStart => exact ⟨0, Nat.zero_le _, rfl, HK3.out⟩
          case round =>
            obtain ⟨m, hm, rfl, hok⟩ := hrel
            by_cases hlm : m < l0
            · obtain ⟨bo, oo, op, rfl, o0⟩ := HN.out m hlm
              have zo := lt_of_cell o0
              have HO := Lib.hid o0
              clear o0
              have HCO : Hid (∀ w0, Ok W w0 → ∀ w, Below w0.heap.size w0 w → Below w0.heap.size w0 w ∧ w.cell? ⟨bo, oo + m, none⟩ = some (.int .i64 op) ∧ w.cell? ⟨b, o + k * 4, none⟩ = some (.int .i64 K1) ∧ w.cell? ⟨b, o + k * 4 + 1, none⟩ = some (.int .i64 N1) ∧ w.cell? ⟨b, o + k * 4 + 2, none⟩ = some (.string S1) ∧ w.cell? ⟨b, o + k * 4 + 3, none⟩ = some (.bool T1) ∧ w.cell? ⟨b, o + j * 4, none⟩ = some (.int .i64 K2) ∧ w.cell? ⟨b, o + j * 4 + 1, none⟩ = some (.int .i64 N2) ∧ w.cell? ⟨b, o + j * 4 + 2, none⟩ = some (.string S2) ∧ w.cell? ⟨b, o + j * 4 + 3, none⟩ = some (.bool T2)) := fun w0 hw0 w hw => by
                have hb := hw0.below.trans (hw.mono hw0.below.size)
                obtain ⟨_, x⟩ := HCL.out w0 hw0 w hw
                exact ⟨hw, (hb.cell (p := ⟨bo, oo + m, none⟩) zo).trans HO.out, x⟩
              obtain ⟨K, N, S, T, E, hb1, hb2⟩ := both_bin op K1 N1 S1 T1 K2 N2 S2 T2 HZ.out W
              obtain ⟨K', N', S', T', E', hu1, hu2⟩ := both_un op K1 N1 S1 T1 W
              have HB1 := Lib.hid hb1
              have HB2 := Lib.hid hb2
              have HU1 := Lib.hid hu1
              have HU2 := Lib.hid hu2
              have q1 : veq K N S T K N S T = true := veq_self _ _ _ _
              have q2 : veq K' N' S' T' K' N' S' T' = true := veq_self _ _ _ _
              have HR0 := Lib.hid hok
              clear hok hb1 hb2 hu1 hu2
              go_upto_region 17 with fail
              go_cut [11, 12] from 55 to 134 (fun s s' wx => ∃ B, s = .pointer (some ⟨B, 0, none⟩) ∧ s' = .int .i64 E ∧ Cells0 wx B K N S T ∧ Below wr.heap.size wr wx ∧ B < wx.heap.size)
              case first =>
                go_region_held3 (fun w => Below wr.heap.size wr w ∧ w.cell? ⟨bo, oo + m, none⟩ = some (.int .i64 op) ∧ w.cell? ⟨b, o + k * 4, none⟩ = some (.int .i64 K1) ∧ w.cell? ⟨b, o + k * 4 + 1, none⟩ = some (.int .i64 N1) ∧ w.cell? ⟨b, o + k * 4 + 2, none⟩ = some (.string S1) ∧ w.cell? ⟨b, o + k * 4 + 3, none⟩ = some (.bool T1) ∧ w.cell? ⟨b, o + j * 4, none⟩ = some (.int .i64 K2) ∧ w.cell? ⟨b, o + j * 4 + 1, none⟩ = some (.int .i64 N2) ∧ w.cell? ⟨b, o + j * 4 + 2, none⟩ = some (.string S2) ∧ w.cell? ⟨b, o + j * 4 + 3, none⟩ = some (.bool T2))
                  ((refine HCO.out wr HR0.out _ ?_; repeat (first | assumption | exact held_below (by assumption) | exact Below.refl _ _ | apply Below.drew | refine Below.alloc ?_ (by first | exact Nat.le_refl _ | assumption | omega | (simp [World.setCell]; done) | (simp [World.setCell]; omega)) _ | refine Below.setCell ?_ (by first | exact Nat.le_refl _ | omega | (simp; done) | (simp; omega)) _)))
                  (first | (go_at_call 20; refine (HB1.out _ (HR0.out.on (held_below (by assumption)))).mono ?_; rintro e w9 ⟨rfl, hb9⟩; obtain ⟨hc9, hf9⟩ := bcell hb9; have hB9 : Below wr.heap.size wr w9 := held_on (by assumption) hb9; have hs9 := hb9.size))
                all_goals
                  go_wp2_with fail
                  go_meet
                  first
                  | exact ⟨w9.heap.size, rfl, rfl, ⟨by simp [go_sem], by simp [go_sem], by simp [go_sem], by simp [go_sem]⟩, hB9.alloc hB9.size _, by simp⟩
                  | exact ⟨wr.heap.size, rfl, rfl, ⟨by simp [go_sem, hc9], by simp [go_sem, hc9], by simp [go_sem, hc9], by simp [go_sem, hc9]⟩, (by repeat (first | exact hB9 | apply Below.drew | refine Below.setCell ?_ (by show wr.heap.size ≤ wr.heap.size; omega) _)), by simp [World.setCell] at hs9 ⊢; omega⟩
              case rest =>
              obtain ⟨B1, rfl, rfl, k1c, hbx, hBB1⟩ := hcut
              obtain ⟨wp, ewd⟩ : ∃ x, x = wc := ⟨_, rfl⟩
              subst ewd
              have HR1 := Lib.hid (HR0.out.on hbx)
              have CB1 := Lib.hid k1c
              have zB1 := Lib.hid hBB1
              have zzB1 := hbx.size
              clear hbx k1c hBB1 zzB1
              go_upto_region 18 with fail
              go_cut [13, 14] from 55 to 134 (fun s s' wx => ∃ B, s = .pointer (some ⟨B, 0, none⟩) ∧ s' = .int .i64 E ∧ Cells0 wx B K N S T ∧ Below wp.heap.size wp wx ∧ B < wx.heap.size)
              case first =>
                go_region_held3 (fun w => Below wp.heap.size wp w ∧ w.cell? ⟨bo, oo + m, none⟩ = some (.int .i64 op) ∧ w.cell? ⟨b, o + k * 4, none⟩ = some (.int .i64 K1) ∧ w.cell? ⟨b, o + k * 4 + 1, none⟩ = some (.int .i64 N1) ∧ w.cell? ⟨b, o + k * 4 + 2, none⟩ = some (.string S1) ∧ w.cell? ⟨b, o + k * 4 + 3, none⟩ = some (.bool T1) ∧ w.cell? ⟨b, o + j * 4, none⟩ = some (.int .i64 K2) ∧ w.cell? ⟨b, o + j * 4 + 1, none⟩ = some (.int .i64 N2) ∧ w.cell? ⟨b, o + j * 4 + 2, none⟩ = some (.string S2) ∧ w.cell? ⟨b, o + j * 4 + 3, none⟩ = some (.bool T2))
                  ((refine HCO.out wp HR1.out _ ?_; repeat (first | assumption | exact held_below (by assumption) | exact Below.refl _ _ | apply Below.drew | refine Below.alloc ?_ (by first | exact Nat.le_refl _ | assumption | omega | (simp [World.setCell]; done) | (simp [World.setCell]; omega)) _ | refine Below.setCell ?_ (by first | exact Nat.le_refl _ | omega | (simp; done) | (simp; omega)) _)))
                  (first | (go_at_call 25; refine (HB2.out _ (HR1.out.on (held_below (by assumption)))).mono ?_; rintro e w9 ⟨rfl, hb9⟩; obtain ⟨hc9, hf9⟩ := bcell hb9; have hB9 : Below wp.heap.size wp w9 := held_on (by assumption) hb9; have hs9 := hb9.size))
                all_goals
                  go_wp2_with fail
                  go_meet
                  first
                  | exact ⟨w9.heap.size, rfl, rfl, ⟨by simp [go_sem], by simp [go_sem], by simp [go_sem], by simp [go_sem]⟩, hB9.alloc hB9.size _, by simp⟩
                  | exact ⟨wp.heap.size, rfl, rfl, ⟨by simp [go_sem, hc9], by simp [go_sem, hc9], by simp [go_sem, hc9], by simp [go_sem, hc9]⟩, (by repeat (first | exact hB9 | apply Below.drew | refine Below.setCell ?_ (by show wp.heap.size ≤ wp.heap.size; omega) _)), by simp [World.setCell] at hs9 ⊢; omega⟩
              case rest =>
              obtain ⟨B2, rfl, rfl, k1c, hbx, hBB2⟩ := hcut
              obtain ⟨wq, ewd⟩ : ∃ x, x = wc := ⟨_, rfl⟩
              subst ewd
              have HR2 := Lib.hid (HR1.out.on hbx)
              have CB2 := Lib.hid k1c
              have zB2 := Lib.hid hBB2
              have zzB2 := hbx.size
              have CB1' := Lib.hid (CB1.out.below zB1.out hbx)
              have zB1' : Hid (B1 < wq.heap.size) := Nat.lt_of_lt_of_le zB1.out zzB2
              clear CB1 zB1
              have CB1 := Lib.hid CB1'.out
              have zB1 := Lib.hid zB1'.out
              clear CB1' zB1'
              clear hbx k1c hBB2 zzB2
              go_upto_region 19 with fail
              go_cut [15, 16] from 55 to 134 (fun s s' wx => ∃ B, s = .pointer (some ⟨B, 0, none⟩) ∧ s' = .int .i64 E' ∧ Cells0 wx B K' N' S' T' ∧ Below wq.heap.size wq wx ∧ B < wx.heap.size)
              case first =>
                go_region_held3 (fun w => Below wq.heap.size wq w ∧ w.cell? ⟨bo, oo + m, none⟩ = some (.int .i64 op) ∧ w.cell? ⟨b, o + k * 4, none⟩ = some (.int .i64 K1) ∧ w.cell? ⟨b, o + k * 4 + 1, none⟩ = some (.int .i64 N1) ∧ w.cell? ⟨b, o + k * 4 + 2, none⟩ = some (.string S1) ∧ w.cell? ⟨b, o + k * 4 + 3, none⟩ = some (.bool T1) ∧ w.cell? ⟨b, o + j * 4, none⟩ = some (.int .i64 K2) ∧ w.cell? ⟨b, o + j * 4 + 1, none⟩ = some (.int .i64 N2) ∧ w.cell? ⟨b, o + j * 4 + 2, none⟩ = some (.string S2) ∧ w.cell? ⟨b, o + j * 4 + 3, none⟩ = some (.bool T2))
                  ((refine HCO.out wq HR2.out _ ?_; repeat (first | assumption | exact held_below (by assumption) | exact Below.refl _ _ | apply Below.drew | refine Below.alloc ?_ (by first | exact Nat.le_refl _ | assumption | omega | (simp [World.setCell]; done) | (simp [World.setCell]; omega)) _ | refine Below.setCell ?_ (by first | exact Nat.le_refl _ | omega | (simp; done) | (simp; omega)) _)))
                  (first | (go_at_call 18; refine (HU1.out _ (HR2.out.on (held_below (by assumption)))).mono ?_; rintro e w9 ⟨rfl, hb9⟩; obtain ⟨hc9, hf9⟩ := bcell hb9; have hB9 : Below wq.heap.size wq w9 := held_on (by assumption) hb9; have hs9 := hb9.size))
                all_goals
                  go_wp2_with fail
                  go_meet
                  first
                  | exact ⟨w9.heap.size, rfl, rfl, ⟨by simp [go_sem], by simp [go_sem], by simp [go_sem], by simp [go_sem]⟩, hB9.alloc hB9.size _, by simp⟩
                  | exact ⟨wq.heap.size, rfl, rfl, ⟨by simp [go_sem, hc9], by simp [go_sem, hc9], by simp [go_sem, hc9], by simp [go_sem, hc9]⟩, (by repeat (first | exact hB9 | apply Below.drew | refine Below.setCell ?_ (by show wq.heap.size ≤ wq.heap.size; omega) _)), by simp [World.setCell] at hs9 ⊢; omega⟩
              case rest =>
              obtain ⟨B3, rfl, rfl, k1c, hbx, hBB3⟩ := hcut
              obtain ⟨ws, ewd⟩ : ∃ x, x = wc := ⟨_, rfl⟩
              subst ewd
              have HR3 := Lib.hid (HR2.out.on hbx)
              have CB3 := Lib.hid k1c
              have zB3 := Lib.hid hBB3
              have zzB3 := hbx.size
              have CB1' := Lib.hid (CB1.out.below zB1.out hbx)
              have zB1' : Hid (B1 < ws.heap.size) := Nat.lt_of_lt_of_le zB1.out zzB3
              clear CB1 zB1
              have CB1 := Lib.hid CB1'.out
              have zB1 := Lib.hid zB1'.out
              clear CB1' zB1'
              have CB2' := Lib.hid (CB2.out.below zB2.out hbx)
              have zB2' : Hid (B2 < ws.heap.size) := Nat.lt_of_lt_of_le zB2.out zzB3
              clear CB2 zB2
              have CB2 := Lib.hid CB2'.out
              have zB2 := Lib.hid zB2'.out
              clear CB2' zB2'
              clear hbx k1c hBB3 zzB3
              go_upto_region 20 with fail
              go_cut [17, 18] from 55 to 134 (fun s s' wx => ∃ B, s = .pointer (some ⟨B, 0, none⟩) ∧ s' = .int .i64 E' ∧ Cells0 wx B K' N' S' T' ∧ Below ws.heap.size ws wx ∧ B < wx.heap.size)
              case first =>
                go_region_held3 (fun w => Below ws.heap.size ws w ∧ w.cell? ⟨bo, oo + m, none⟩ = some (.int .i64 op) ∧ w.cell? ⟨b, o + k * 4, none⟩ = some (.int .i64 K1) ∧ w.cell? ⟨b, o + k * 4 + 1, none⟩ = some (.int .i64 N1) ∧ w.cell? ⟨b, o + k * 4 + 2, none⟩ = some (.string S1) ∧ w.cell? ⟨b, o + k * 4 + 3, none⟩ = some (.bool T1) ∧ w.cell? ⟨b, o + j * 4, none⟩ = some (.int .i64 K2) ∧ w.cell? ⟨b, o + j * 4 + 1, none⟩ = some (.int .i64 N2) ∧ w.cell? ⟨b, o + j * 4 + 2, none⟩ = some (.string S2) ∧ w.cell? ⟨b, o + j * 4 + 3, none⟩ = some (.bool T2))
                  ((refine HCO.out ws HR3.out _ ?_; repeat (first | assumption | exact held_below (by assumption) | exact Below.refl _ _ | apply Below.drew | refine Below.alloc ?_ (by first | exact Nat.le_refl _ | assumption | omega | (simp [World.setCell]; done) | (simp [World.setCell]; omega)) _ | refine Below.setCell ?_ (by first | exact Nat.le_refl _ | omega | (simp; done) | (simp; omega)) _)))
                  (first | (go_at_call 26; refine (HU2.out _ (HR3.out.on (held_below (by assumption)))).mono ?_; rintro e w9 ⟨rfl, hb9⟩; obtain ⟨hc9, hf9⟩ := bcell hb9; have hB9 : Below ws.heap.size ws w9 := held_on (by assumption) hb9; have hs9 := hb9.size))
                all_goals
                  go_wp2_with fail
                  go_meet
                  first
                  | exact ⟨w9.heap.size, rfl, rfl, ⟨by simp [go_sem], by simp [go_sem], by simp [go_sem], by simp [go_sem]⟩, hB9.alloc hB9.size _, by simp⟩
                  | exact ⟨ws.heap.size, rfl, rfl, ⟨by simp [go_sem, hc9], by simp [go_sem, hc9], by simp [go_sem, hc9], by simp [go_sem, hc9]⟩, (by repeat (first | exact hB9 | apply Below.drew | refine Below.setCell ?_ (by show ws.heap.size ≤ ws.heap.size; omega) _)), by simp [World.setCell] at hs9 ⊢; omega⟩
              case rest =>
              obtain ⟨B4, rfl, rfl, k1c, hbx, hBB4⟩ := hcut
              obtain ⟨wt, ewd⟩ : ∃ x, x = wc := ⟨_, rfl⟩
              subst ewd
              have HR4 := Lib.hid (HR3.out.on hbx)
              have CB4 := Lib.hid k1c
              have zB4 := Lib.hid hBB4
              have zzB4 := hbx.size
              have CB1' := Lib.hid (CB1.out.below zB1.out hbx)
              have zB1' : Hid (B1 < wt.heap.size) := Nat.lt_of_lt_of_le zB1.out zzB4
              clear CB1 zB1
              have CB1 := Lib.hid CB1'.out
              have zB1 := Lib.hid zB1'.out
              clear CB1' zB1'
              have CB2' := Lib.hid (CB2.out.below zB2.out hbx)
              have zB2' : Hid (B2 < wt.heap.size) := Nat.lt_of_lt_of_le zB2.out zzB4
              clear CB2 zB2
              have CB2 := Lib.hid CB2'.out
              have zB2 := Lib.hid zB2'.out
              clear CB2' zB2'
              have CB3' := Lib.hid (CB3.out.below zB3.out hbx)
              have zB3' : Hid (B3 < wt.heap.size) := Nat.lt_of_lt_of_le zB3.out zzB4
              clear CB3 zB3
              have CB3 := Lib.hid CB3'.out
              have zB3 := Lib.hid zB3'.out
              clear CB3' zB3'
              clear hbx k1c hBB4 zzB4
              obtain ⟨x10, x11, x12, x13⟩ := CB1.out
              obtain ⟨x20, x21, x22, x23⟩ := CB2.out
              obtain ⟨x30, x31, x32, x33⟩ := CB3.out
              obtain ⟨x40, x41, x42, x43⟩ := CB4.out
              go_wp2
              go_roundw
              case rel => exact ⟨m + 1, by omega, by go_num, HR4.out⟩
              case measure => simp [intOf]; omega
            · have hkk : m = l0 := by omega
              subst hkk
              have HR0 := Lib.hid hok
              clear hok
              go_wp2
              go_roundw
              case rel => exact ⟨j + 1, by omega, by go_num, HR0.out⟩
              case measure => simp [intOf]; omega
        · have hkk : j = l1 := by omega
          subst hkk
          have HK1 := Lib.hid hok
          clear hok
          go_wp2
          go_roundw
          case rel => exact ⟨k + 1, by omega, by go_num, HK1.out⟩
          case measure => simp [intOf]; omega
    · have hkk : k = l1 := by omega
      subst hkk
      go_wp2
      go_ret
      exact ⟨rfl, hok.below⟩
end Go.Proofs.YtcjibjiojgikjaaDoor.lawOps
