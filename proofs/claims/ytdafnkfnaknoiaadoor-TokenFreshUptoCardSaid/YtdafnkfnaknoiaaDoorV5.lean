/- Rows of bytes that are handed in: what lies there. -/
import Derived.Test.YtdafnkfnaknoiaaDoorN2
import Derived.Deep.Slices
import Derived.Deep.Matrix
import Derived.SizedLaws
import Derived.Lib.SmallJoins
import Derived.ChangeMaps5
namespace Go.Proofs.YtdafnkfnaknoiaaDoor
open Go Go.ChangeShapes Go.WideShapes Go.ChangeAt Go.RowKit Go.Deep
set_option maxHeartbeats 1000000
set_option linter.unusedVariables false
set_option linter.unusedSimpArgs false
/-- a row of bytes lies there -/
def Bys (w : World) (p : Option Addr) (len : Nat) : Prop := ∀ i, i < len → ∃ (b o : Nat) (n : Nat), p = some ⟨b, o, none⟩ ∧ n < 256 ∧ w.cell? ⟨b, o + i, none⟩ = some (.int .u8 n)
theorem Bys.below {w w' : World} {p : Option Addr} {n : Nat} (h : Bys w p n) (hb : Below w.heap.size w w') : Bys w' p n := by
  intro i hi
  obtain ⟨b, o, x, e, h6, c⟩ := h i hi
  exact ⟨b, o, x, e, h6, (hb.cell (p := ⟨b, o + i, none⟩) (lt_of_cell c)).trans c⟩
theorem u8_of_wf {a : Int} (h : (Lit.int .u8 a).wf = true) : 0 ≤ a ∧ a ≤ 255 := by
  have hmin : IntKind.min .u8 = 0 := by decide
  have hmax : IntKind.max .u8 = 255 := by decide
  simp only [Lit.wf, hmin, hmax, Bool.and_eq_true, decide_eq_true_eq] at h
  exact h
set_option maxRecDepth 100000 in
theorem open_bys {H : Type} {enc : TypeId × Value → H} {w : World} {held : Bool} {v : Value} {d : DataW H} {ps : List MemPlace} {r : Reach} {b0 : Nat} (hv : Value.okWide Tryd.prog w r b0 22 v)
    (h : DataW.Trod enc Tryd.prog w 0 (fun _ => true) held 22 v d ps) : ∃ p len cap, v = .slice p len cap ∧ len ≤ maxLen ∧ Bys w p len := by
  obtain ⟨p, len, cap, rfl⟩ := okWide_slice Tryd.underlying22 hv
  obtain ⟨fuel, hf⟩ := h
  simp only [Value.cells] at hf
  refine ⟨p, len, cap, rfl, ?_⟩
  rcases open_ints Tryd.underlying22 (k := .u8) (by kernel_rfl) (by kernel_rfl) hf with ⟨h0, _⟩ | ⟨a, l, c, ss, h0, _, hl, hm, hmm, _, hi, hw⟩
  · simp only [List.cons.injEq, Value.slice.injEq, and_true] at h0
    obtain ⟨rfl, rfl, rfl⟩ := h0
    exact ⟨Nat.zero_le _, fun i hi => absurd hi (Nat.not_lt_zero _)⟩
  · simp only [List.cons.injEq, Value.slice.injEq, and_true] at h0
    obtain ⟨rfl, rfl, rfl⟩ := h0
    simp only [if_true] at hmm
    refine ⟨Nat.le_trans hl hm, fun i him => ?_⟩
    have his : i < ss.length := by omega
    have x0 := hi i (by omega)
    have y0 := hi 0 (by omega)
    obtain ⟨b, o, spot⟩ := a
    have hspot : spot = none := by simpa [Addr.add] using World.cell?_spot y0
    subst hspot
    have hg : ss.getD i 0 = ss[i] := by rw [List.getD_eq_getElem?_getD, List.getElem?_eq_getElem his]; rfl
    have hwf := u8_of_wf (hw _ (List.getElem_mem his))
    refine ⟨b, o, (ss[i]).toNat, rfl, by omega, ?_⟩
    rw [Addr.add_lit] at x0
    rw [x0, hg, Int.toNat_of_nonneg hwf.1]
end Go.Proofs.YtdafnkfnaknoiaaDoor
