/- What the longer list of package-level variables gives: the table of the words beside the library's. -/
import Derived.Test.YtdafnkfnaknoiaaDoorN2
import Derived.Test.YtdafnkfnaknoiaaDoorT25
namespace Go.Proofs.YtdafnkfnaknoiaaDoor
open Go Go.ChangeShapes Go.WideShapes Go.ChangeAt Go.RowKit
set_option maxHeartbeats 400000
set_option linter.unusedVariables false
set_option linter.unusedSimpArgs false
theorem gType0w : (Tryd.prog.globals[0]?).map (·.type) = some 73 := by kernel_rfl
theorem cellsW : Tryd.prog.cellsOf 73 = 16 := by kernel_rfl
theorem cellsS9 : Tryd.prog.cellsOf 9 = 1 := by kernel_rfl
theorem laid_words {H : Type} : (Rows.laid_refrain_token_words : DataW H) = .agg (wdL.map fun l => .lit (.string l)) := rfl
theorem words_cells {H : Type} {enc : TypeId × Value → H} {w : World} {base : Nat} {sp : Nat → Bool} {held : Bool} {fuel : Nat} {cs : List Value} {p : List MemPlace}
    (h : DataW.trod enc Tryd.prog w base sp held fuel 73 cs = some (Rows.laid_refrain_token_words, p)) : ∀ (j : Nat) (l : List UInt8), wdL[j]? = some l → cs[j]? = some (.string ⟨l.toArray⟩) := by
  intro o l hw
  have ho16 : o < 16 := (List.getElem?_eq_some_iff.1 hw).1
  cases fuel with
  | zero => simp [DataW.trod] at h
  | succ fuel =>
    simp only [DataW.trod, Tryd.underlying73, cellsW, cellsS9] at h
    split at h
    · obtain ⟨xs, hm, hx⟩ := Option.map_eq_some_iff.1 h
      have hxs : (DataW.agg (xs.map (·.1)) : DataW H) = Rows.laid_refrain_token_words := congrArg Prod.fst hx
      rw [laid_words] at hxs
      injection hxs with hxs
      obtain ⟨y, hy, hf⟩ := Lib.mapM_at hm o o (by simp [ho16])
      obtain ⟨d, q⟩ := y
      have h1 := congrArg (·[o]?) hxs
      simp only [List.getElem?_map, hy, Option.map_some, hw, Option.some.injEq] at h1
      obtain ⟨s, e1, e2, _⟩ := DataW.trod_string Tryd.underlying9 hf
      have e3 := congrArg Prod.fst e2
      simp only at e3
      rw [h1] at e3
      injection e3 with e3
      injection e3 with e3
      have hs : s = ⟨l.toArray⟩ := bytes_ext' (e3.symm.trans (by simp))
      have h5 := congrArg (·[0]?) e1
      simp only [List.getElem?_take, List.getElem?_drop, List.getElem?_cons_zero] at h5
      have h6 : cs[o]? = some (.string s) := by simpa using h5
      rw [h6, hs]
    · cases h
theorem words_of_laid {W : World} (h0 : laidMetH Tryd.prog Rows.tokenAllUptoRow.laid W) : Wd W := by
  have h : laidMet Tryd.prog Rows.tokenAllUptoRow.laid W := h0
  obtain ⟨_, ⟨g, t, cs, fuel, p, q, hg, ht, hvar, hd, _, _⟩, _⟩ := h.tail.tail.tail.tail.tail
  obtain rfl : g = 0 := Option.some.inj (hg.symm.trans (by kernel_rfl))
  obtain rfl : t = 73 := Option.some.inj (ht.symm.trans gType0w)
  have hc := words_cells hd
  have c : ∀ i v, cs.toList[i]? = some v → W.cell? ⟨0, i, none⟩ = some v := fun i v hi => (World.var?_cell hg hvar i).trans (by rw [← Array.getElem?_toList]; exact hi)
  exact ⟨lt_of_cell (c 0 _ (hc 0 [80, 65, 84, 84, 69, 82, 78] rfl)), fun j hj => c j _ (hc j _ (List.getElem?_eq_getElem hj))⟩
theorem errs_of_laid6 {W : World} (h0 : laidMetH Tryd.prog Rows.tokenAllUptoRow.laid W) : Errs W := by
  have h : laidMet Tryd.prog Rows.tokenAllUptoRow.laid W := h0
  have hpow := Lib.tabIs_of_head (k := .u64) (zs := Lib.pow10Tab) (g := 2) (by kernel_rfl) gType2 (Tryd.underlying123) Tryd.underlying109 cells109 cells123 h.tail.tail
  obtain ⟨_, ⟨g, t, cs, fuel, p, q, hg, ht, hvar, hd, _, _⟩, _⟩ := h.tail.tail.tail
  obtain ⟨_, ⟨g', t', cs', fuel', p', q', hg', ht', hvar', hd', _, _⟩, _⟩ := h.tail.tail.tail.tail
  obtain rfl : g = 4 := Option.some.inj (hg.symm.trans (by kernel_rfl))
  obtain rfl : g' = 3 := Option.some.inj (hg'.symm.trans (by kernel_rfl))
  obtain rfl : t = 104 := Option.some.inj (ht.symm.trans gType4)
  obtain rfl : t' = 104 := Option.some.inj (ht'.symm.trans gType3)
  obtain ⟨u, v, e4⟩ := iface_cells hd
  obtain ⟨u', v', e3⟩ := iface_cells hd'
  have c4 : W.cell? ⟨4, 0, none⟩ = some (.iface u v) := (World.var?_cell hg hvar 0).trans (by rw [← Array.getElem?_toList]; exact e4)
  have c3 : W.cell? ⟨3, 0, none⟩ = some (.iface u' v') := (World.var?_cell hg' hvar' 0).trans (by rw [← Array.getElem?_toList]; exact e3)
  have l4 := lt_of_cell c4
  exact ⟨⟨l4, ⟨_, _, c3⟩, ⟨_, _, c4⟩⟩, hpow⟩
theorem laid_met6 (os : Os) (args : Array Value) : laidMet Tryd.prog Rows.tokenAllUptoRow.laid ((laidWorld os).forCall (fun _ _ => 0) ⟨#[], args, []⟩).memory :=
  laidMet_of_run' 8 (by kernel_rfl) (by kernel_rfl)
end Go.Proofs.YtdafnkfnaknoiaaDoor
