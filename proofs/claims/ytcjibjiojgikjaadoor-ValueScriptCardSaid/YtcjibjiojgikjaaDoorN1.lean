/- What the row's list of package-level variables gives: a world that is fit; and a world in which the list is met. -/
import Derived.Test.YtcjibjiojgikjaaDoorB2
import Derived.Test.YtcjibjiojgikjaaDoorCards
import Derived.Test.YtcjibjiojgikjaaDoorTie
import Derived.WalkKit
import Derived.ProofKit
import Derived.OpenShut
import Derived.Deep.DeepHandedRow
import Derived.Deep.DeepWitnessRowRef
import Derived.Lib.LaidTab
import Derived.Stop.LaidErr
namespace Go.Proofs.YtcjibjiojgikjaaDoor
open Go Go.ChangeShapes Go.WideShapes Go.ChangeAt Go.RowKit
set_option maxHeartbeats 400000
set_option linter.unusedVariables false
set_option linter.unusedSimpArgs false
theorem own : ownKnob Tryd.prog.godebug = none := by kernel_rfl
theorem laid_plain {W : World} (h : laidMetH Tryd.prog Rows.valueRingRow.laid W) : laidMet Tryd.prog Rows.valueRingRow.laid W := h
theorem gType0 : (Tryd.prog.globals[0]?).map (·.type) = some 85 := by kernel_rfl
theorem gType1 : (Tryd.prog.globals[1]?).map (·.type) = some 102 := by kernel_rfl
theorem gType2 : (Tryd.prog.globals[2]?).map (·.type) = some 77 := by kernel_rfl
theorem gType3 : (Tryd.prog.globals[3]?).map (·.type) = some 77 := by kernel_rfl
theorem cells84 : Tryd.prog.cellsOf 84 = 3 := by kernel_rfl
theorem cells85 : Tryd.prog.cellsOf 85 = 42 := by kernel_rfl
theorem cells3 : Tryd.prog.cellsOf 3 = 1 := by kernel_rfl
theorem cells102 : Tryd.prog.cellsOf 102 = 20 := by kernel_rfl
theorem cells70 : Tryd.prog.cellsOf 70 = 1 := by kernel_rfl
/-- the cells of a struct of three numbers -/
theorem three_cells {H : Type} {enc : TypeId × Value → H} {w : World} {base : Nat} {sp : Nat → Bool} {held : Bool} {fuel : Nat} {cs : List Value} {d : DataW H} {p : List MemPlace} {x y z : Int}
    (h : DataW.trod enc Tryd.prog w base sp held fuel 84 cs = some (d, p)) (hd : d = .agg [.lit (.int .i64 x), .lit (.int .i64 y), .lit (.int .i64 z)]) :
    cs[0]? = some (.int .i64 x) ∧ cs[1]? = some (.int .i64 y) ∧ cs[2]? = some (.int .i64 z) := by
  obtain ⟨xs, n, _, hx, hlen, hxl, hf⟩ := DataW.trod_struct Tryd.underlying84 h
  have hxs : xs.map (·.1) = [.lit (.int .i64 x), .lit (.int .i64 y), .lit (.int .i64 z)] := by
    have := congrArg Prod.fst hx
    simp only [hd] at this
    injection this with this
    exact this.symm
  have cell : ∀ (j : Nat) (t : TypeId) (v : Int), t = 3 → DataW.trod enc Tryd.prog w base sp held n t ((cs.drop j).take (Tryd.prog.cellsOf t)) = xs[j]? → (xs.map (·.1))[j]? = some (.lit (.int .i64 v)) → cs[j]? = some (.int .i64 v) := by
    intro j t v ht ha hb
    subst ht
    rw [List.getElem?_map] at hb
    obtain ⟨q, hq, hq1⟩ := Option.map_eq_some_iff.1 hb
    rw [hq, cells3] at ha
    obtain ⟨m, hc, hm, _⟩ := DataW.trod_int Tryd.underlying3 ha
    have h1 : m = v := by
      rw [hm] at hq1
      injection hq1 with hq1
      injection hq1
    have := congrArg (·[0]?) hc
    simp only [List.getElem?_take, List.getElem?_drop, List.getElem?_cons_zero] at this
    rw [h1] at this
    simpa using this
  refine ⟨cell 0 3 x rfl (hf 0 _ rfl) (by rw [hxs]; rfl), cell 1 3 y rfl (hf 1 _ rfl) (by rw [hxs]; rfl), cell 2 3 z rfl (hf 2 _ rfl) (by rw [hxs]; rfl)⟩
/-- the cells of the table of rules -/
theorem rules_cells {H : Type} {enc : TypeId × Value → H} {w : World} {base : Nat} {sp : Nat → Bool} {held : Bool} {fuel : Nat} {cs : List Value} {p : List MemPlace}
    (h : DataW.trod enc Tryd.prog w base sp held fuel 85 cs = some (Rows.laid_refrain_value_rules, p)) :
    ∀ o, o < 14 → cs[o * 3]? = some (.int .i64 (rArgs o)) ∧ cs[o * 3 + 1]? = some (.int .i64 (rKinds o)) ∧ cs[o * 3 + 2]? = some (.int .i64 (rDoes o)) := by
  cases fuel with
  | zero => simp [DataW.trod] at h
  | succ fuel =>
    simp only [DataW.trod, Tryd.underlying85, cells84, cells85] at h
    split at h
    · obtain ⟨xs, hm, hx⟩ := Option.map_eq_some_iff.1 h
      have hxs : (DataW.agg (xs.map (·.1)) : DataW H) = Rows.laid_refrain_value_rules := congrArg Prod.fst hx
      intro o ho
      obtain ⟨b, hb, hf⟩ := Lib.mapM_at hm o o (by simp [ho])
      obtain ⟨d, q⟩ := b
      have hd : ∀ l : List (DataW H), (Rows.laid_refrain_value_rules : DataW H) = .agg l → l[o]? = some d := by
        intro l hl
        rw [← hxs] at hl
        injection hl with hl
        rw [← hl, List.getElem?_map, hb]
        rfl
      have hd' := hd _ rfl
      have hcell : d = .agg [.lit (.int .i64 (rArgs o)), .lit (.int .i64 (rKinds o)), .lit (.int .i64 (rDoes o))] := by
        have ho' : o = 0 ∨ o = 1 ∨ o = 2 ∨ o = 3 ∨ o = 4 ∨ o = 5 ∨ o = 6 ∨ o = 7 ∨ o = 8 ∨ o = 9 ∨ o = 10 ∨ o = 11 ∨ o = 12 ∨ o = 13 := by omega
        rcases ho' with rfl | rfl | rfl | rfl | rfl | rfl | rfl | rfl | rfl | rfl | rfl | rfl | rfl | rfl <;> (injection hd' with hd'; exact hd'.symm)
      obtain ⟨h0, h1, h2⟩ := three_cells hf hcell
      simp only [List.getElem?_take, List.getElem?_drop] at h0 h1 h2
      refine ⟨by simpa using h0, by simpa using h1, by simpa using h2⟩
    · cases h
theorem iface_cells {H : Type} {enc : TypeId × Value → H} {w : World} {base : Nat} {sp : Nat → Bool} {held : Bool} {fuel : Nat} {cs : List Value} {nm : String} {d : DataW H} {p : List MemPlace}
    (h : DataW.trod enc Tryd.prog w base sp held fuel 77 cs = some (.iface nm d, p)) : ∃ u v, cs[0]? = some (.iface u v) := by
  cases fuel with
  | zero => simp [DataW.trod] at h
  | succ fuel =>
    simp only [DataW.trod, Tryd.underlying77] at h
    split at h
    all_goals first | (exact ⟨_, _, rfl⟩) | simp_all
theorem lt_of_cell {w : World} {b : Nat} {o : Nat} {v : Value} (h : w.cell? ⟨b, o, none⟩ = some v) : b < w.heap.size := by
  rcases Nat.lt_or_ge b w.heap.size with hlt | hge
  · exact hlt
  · simp [World.cell?, Array.getElem?_eq_none hge] at h
theorem inv_of_laid {W : World} (h0 : laidMetH Tryd.prog Rows.valueRingRow.laid W) : Inv W := by
  have h : laidMet Tryd.prog Rows.valueRingRow.laid W := h0
  have hpow := Lib.tabIs_of_head (k := .u64) (zs := Lib.pow10Tab) (g := 1) (by kernel_rfl) gType1 (Tryd.underlying102) Tryd.underlying70 cells70 cells102 h.tail.tail
  obtain ⟨_, ⟨g, t, cs, fuel, p, q, hg, ht, hvar, hd, _, _⟩, _⟩ := h.tail.tail.tail
  obtain ⟨_, ⟨g', t', cs', fuel', p', q', hg', ht', hvar', hd', _, _⟩, _⟩ := h.tail.tail.tail.tail
  obtain ⟨_, ⟨g9, t9, cs9, fuel9, p9, q9, hg9, ht9, hvar9, hd9, _, _⟩, _⟩ := h.tail.tail.tail.tail.tail
  obtain rfl : g = 3 := Option.some.inj (hg.symm.trans (by kernel_rfl))
  obtain rfl : g' = 2 := Option.some.inj (hg'.symm.trans (by kernel_rfl))
  obtain rfl : g9 = 0 := Option.some.inj (hg9.symm.trans (by kernel_rfl))
  obtain rfl : t = 77 := Option.some.inj (ht.symm.trans gType3)
  obtain rfl : t' = 77 := Option.some.inj (ht'.symm.trans gType2)
  obtain rfl : t9 = 85 := Option.some.inj (ht9.symm.trans gType0)
  obtain ⟨u, v, e3⟩ := iface_cells hd
  obtain ⟨u', v', e2⟩ := iface_cells hd'
  have c3 : W.cell? ⟨3, 0, none⟩ = some (.iface u v) := (World.var?_cell hg hvar 0).trans (by rw [← Array.getElem?_toList]; exact e3)
  have c2 : W.cell? ⟨2, 0, none⟩ = some (.iface u' v') := (World.var?_cell hg' hvar' 0).trans (by rw [← Array.getElem?_toList]; exact e2)
  have hr := rules_cells hd9
  have cr : ∀ i v, cs9.toList[i]? = some v → W.cell? ⟨0, i, none⟩ = some v := fun i v hi => (World.var?_cell hg9 hvar9 i).trans (by rw [← Array.getElem?_toList]; exact hi)
  have l3 := lt_of_cell c3
  exact ⟨⟨by omega, fun o ho => cr _ _ (hr o ho).1, fun o ho => cr _ _ (hr o ho).2.1, fun o ho => cr _ _ (hr o ho).2.2⟩, hpow, ⟨l3, ⟨_, _, c2⟩, ⟨_, _, c3⟩⟩⟩

/-! ### A world in which the list is met -/
abbrev synS : ByteArray := { data := #[105, 110, 118, 97, 108, 105, 100, 32, 115, 121, 110, 116, 97, 120] }
abbrev rngS : ByteArray := { data := #[118, 97, 108, 117, 101, 32, 111, 117, 116, 32, 111, 102, 32, 114, 97, 110, 103, 101] }
noncomputable def low : Nat := (World.holding Tryd.prog default ⟨#[], #[], []⟩).heap.size
/-- block k's cells are these -/
def put (k : Nat) (cs : Array Value) (h : Array Obj) : Array Obj := h.modify k fun
  | .cells _ t frozen => .cells cs t frozen
  | o => o
/-- The settled world with two blocks more, each an errors.errorString, and the listed variables holding what their initialisers lay. -/
noncomputable def laidWorld (os : Os) : World :=
  let w0 := World.holding Tryd.prog os ⟨#[.cells #[.string synS] 122, .cells #[.string rngS] 122], #[], []⟩
  { w0 with heap := put 0 #[.int .i64 0, .int .i64 0, .int .i64 0, .int .i64 1, .int .i64 2, .int .i64 0, .int .i64 1, .int .i64 8, .int .i64 2, .int .i64 2, .int .i64 2, .int .i64 0, .int .i64 2, .int .i64 2, .int .i64 0, .int .i64 2, .int .i64 2, .int .i64 0, .int .i64 2, .int .i64 14, .int .i64 1, .int .i64 2, .int .i64 14, .int .i64 1, .int .i64 2, .int .i64 6, .int .i64 1, .int .i64 2, .int .i64 6, .int .i64 1, .int .i64 2, .int .i64 6, .int .i64 1, .int .i64 2, .int .i64 6, .int .i64 1, .int .i64 2, .int .i64 8, .int .i64 2, .int .i64 2, .int .i64 8, .int .i64 2] (put 1 #[.int .u64 1, .int .u64 10, .int .u64 100, .int .u64 1000, .int .u64 10000, .int .u64 100000, .int .u64 1000000, .int .u64 10000000, .int .u64 100000000, .int .u64 1000000000, .int .u64 10000000000, .int .u64 100000000000, .int .u64 1000000000000, .int .u64 10000000000000, .int .u64 100000000000000, .int .u64 1000000000000000, .int .u64 10000000000000000, .int .u64 100000000000000000, .int .u64 1000000000000000000, .int .u64 10000000000000000000] (put 2 #[.iface 120 (.pointer (some ⟨low, 0, none⟩))] (put 3 #[.iface 120 (.pointer (some ⟨low + 1, 0, none⟩))] (put 4 #[.int .u8 0, .int .u8 1, .int .u8 28, .int .u8 2, .int .u8 29, .int .u8 14, .int .u8 24, .int .u8 3, .int .u8 30, .int .u8 22, .int .u8 20, .int .u8 15, .int .u8 25, .int .u8 17, .int .u8 4, .int .u8 8, .int .u8 31, .int .u8 27, .int .u8 13, .int .u8 23, .int .u8 21, .int .u8 19, .int .u8 16, .int .u8 7, .int .u8 26, .int .u8 12, .int .u8 18, .int .u8 6, .int .u8 11, .int .u8 5, .int .u8 10, .int .u8 9] (put 5 #[.int .u8 0, .int .u8 1, .int .u8 56, .int .u8 2, .int .u8 57, .int .u8 49, .int .u8 28, .int .u8 3, .int .u8 61, .int .u8 58, .int .u8 42, .int .u8 50, .int .u8 38, .int .u8 29, .int .u8 17, .int .u8 4, .int .u8 62, .int .u8 47, .int .u8 59, .int .u8 36, .int .u8 45, .int .u8 43, .int .u8 51, .int .u8 22, .int .u8 53, .int .u8 39, .int .u8 33, .int .u8 30, .int .u8 24, .int .u8 18, .int .u8 12, .int .u8 5, .int .u8 63, .int .u8 55, .int .u8 48, .int .u8 27, .int .u8 60, .int .u8 41, .int .u8 37, .int .u8 16, .int .u8 46, .int .u8 35, .int .u8 44, .int .u8 21, .int .u8 52, .int .u8 32, .int .u8 23, .int .u8 11, .int .u8 54, .int .u8 26, .int .u8 40, .int .u8 15, .int .u8 34, .int .u8 20, .int .u8 31, .int .u8 10, .int .u8 25, .int .u8 14, .int .u8 19, .int .u8 9, .int .u8 13, .int .u8 8, .int .u8 7, .int .u8 6] w0.heap))))) }
theorem laid_met (os : Os) (args : Array Value) : laidMet Tryd.prog Rows.valueRingRow.laid ((laidWorld os).forCall (fun _ _ => 0) ⟨#[], args, []⟩).memory :=
  laidMet_of_run' 8 (by kernel_rfl) (by kernel_rfl)
end Go.Proofs.YtcjibjiojgikjaaDoor
