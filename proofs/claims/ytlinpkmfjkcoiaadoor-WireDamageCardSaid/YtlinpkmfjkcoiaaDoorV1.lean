/- Rows that are handed in: numbers, bytes, rows of bytes: what lies there. -/
import Derived.Test.YtlinpkmfjkcoiaaDoorN2
import Derived.Test.YtlinpkmfjkcoiaaDoorH4
import Derived.Deep.Slices
import Derived.Deep.Matrix
import Derived.SizedLaws
namespace Go.Proofs.YtlinpkmfjkcoiaaDoor
open Go Go.ChangeShapes Go.WideShapes Go.ChangeAt Go.RowKit Go.Deep
set_option maxHeartbeats 1000000
set_option linter.unusedVariables false
set_option linter.unusedSimpArgs false
/-- a row of numbers lies there -/
def Nums (w : World) (p : Option Addr) (len : Nat) : Prop := ∀ i, i < len → ∃ (b o : Nat) (n : Int), p = some ⟨b, o, none⟩ ∧ I64 n ∧ w.cell? ⟨b, o + i, none⟩ = some (.int .i64 n)
theorem Nums.below {w w' : World} {p : Option Addr} {n : Nat} (h : Nums w p n) (hb : Below w.heap.size w w') : Nums w' p n := by
  intro i hi
  obtain ⟨b, o, x, e, h6, c⟩ := h i hi
  exact ⟨b, o, x, e, h6, (hb.cell (p := ⟨b, o + i, none⟩) (lt_of_cell c)).trans c⟩
/-- a row of rows of bytes lies there -/
def Raws (w : World) (p : Option Addr) (len : Nat) : Prop := ∀ i, i < len → ∃ (b o : Nat) (q : Option Addr) (d : Nat) (l : List UInt8), p = some ⟨b, o, none⟩ ∧ w.cell? ⟨b, o + i, none⟩ = some (.slice q l.length d) ∧ In w q l ∧ l.length ≤ 140737488351232 ∧ l.length ≤ d ∧ d ≤ maxLen
theorem Raws.below {w w' : World} {p : Option Addr} {n : Nat} (h : Raws w p n) (hb : Below w.heap.size w w') : Raws w' p n := by
  intro i hi
  obtain ⟨b, o, q, d, l, e, c, h1, h2⟩ := h i hi
  exact ⟨b, o, q, d, l, e, (hb.cell (p := ⟨b, o + i, none⟩) (lt_of_cell c)).trans c, h1.below hb, h2⟩
theorem u8_of_wf {a : Int} (h : (Lit.int .u8 a).wf = true) : 0 ≤ a ∧ a ≤ 255 := by
  have hmin : IntKind.min .u8 = 0 := by decide
  have hmax : IntKind.max .u8 = 255 := by decide
  simp only [Lit.wf, hmin, hmax, Bool.and_eq_true, decide_eq_true_eq] at h
  exact h
set_option maxRecDepth 100000 in
theorem open_nums {H : Type} {enc : TypeId × Value → H} {w : World} {held : Bool} {v : Value} {d : DataW H} {ps : List MemPlace} {r : Reach} {b0 : Nat} (hv : Value.okWide Tryd.prog w r b0 46 v)
    (h : DataW.Trod enc Tryd.prog w 0 (fun _ => true) held 46 v d ps) : ∃ p len cap, v = .slice p len cap ∧ len ≤ maxLen ∧ Nums w p len := by
  obtain ⟨p, len, cap, rfl⟩ := okWide_slice Tryd.underlying46 hv
  obtain ⟨fuel, hf⟩ := h
  simp only [Value.cells] at hf
  refine ⟨p, len, cap, rfl, ?_⟩
  rcases open_ints Tryd.underlying46 (k := .i64) (by kernel_rfl) (by kernel_rfl) hf with ⟨h0, _⟩ | ⟨a, l, c, ss, h0, _, hl, hm, hmm, _, hi, hw⟩
  · simp only [List.cons.injEq, Value.slice.injEq, and_true] at h0
    obtain ⟨rfl, rfl, rfl⟩ := h0
    exact ⟨Nat.zero_le _, fun i hi => absurd hi (Nat.not_lt_zero _)⟩
  · simp only [List.cons.injEq, Value.slice.injEq, and_true] at h0
    obtain ⟨rfl, rfl, rfl⟩ := h0
    refine ⟨Nat.le_trans hl hm, fun i him => ?_⟩
    have his : i < ss.length := by rw [hmm]; simp; omega
    have x0 := hi i his
    have y0 := hi 0 (by omega)
    obtain ⟨b, o, spot⟩ := a
    have hspot : spot = none := by simpa [Addr.add] using World.cell?_spot y0
    subst hspot
    refine ⟨b, o, _, rfl, i64_of_wf (hw _ ?_), by rw [Addr.add_lit] at x0; exact x0⟩
    rw [List.getD_eq_getElem?_getD, List.getElem?_eq_getElem his]
    exact List.getElem_mem his
/-- bytes out of their numbers -/
def bytesOf (zs : List Int) : List UInt8 := zs.map fun z => UInt8.ofNat z.toNat
theorem bytesOf_at {zs : List Int} (hw : ∀ n ∈ zs, (Lit.int .u8 n).wf = true) {i : Nat} (h : i < zs.length) : (((bytesOf zs)[i]'(by simpa [bytesOf] using h)).toNat : Int) = zs.getD i 0 := by
  have h1 := u8_of_wf (hw zs[i] (List.getElem_mem h))
  unfold bytesOf
  rw [List.getElem_map, ofNat_small (by omega), List.getD_eq_getElem?_getD, List.getElem?_eq_getElem h]
  simp only [Option.getD_some]
  omega
/-- a row of bytes, opened from its cells -/
theorem in_of {w : World} {a : Option Addr} {len C : Nat} {zs : List Int} (hl : len ≤ C) (hz : zs.length = C) (hw : ∀ n ∈ zs, (Lit.int .u8 n).wf = true) (hn : a = none → C = 0) (hc : ∀ a', a = some a' → ∀ c, c < C → w.cell? (a'.add c) = some (.int .u8 (zs.getD c 0))) :
    ∃ l : List UInt8, l.length = len ∧ In w a l := by
  refine ⟨bytesOf (zs.take len), by simp [bytesOf]; omega, fun i hi => ?_⟩
  have hil : i < len := by simp [bytesOf] at hi; omega
  cases a with
  | none => have := hn rfl; omega
  | some a' =>
    have y0 := hc a' rfl 0 (by omega)
    have x0 := hc a' rfl i (by omega)
    obtain ⟨b, o, spot⟩ := a'
    have hspot : spot = none := by simpa [Addr.add] using World.cell?_spot y0
    subst hspot
    refine ⟨b, o, rfl, ?_⟩
    rw [Addr.add_lit] at x0
    rw [x0, bytesOf_at (fun n hn => hw n (List.mem_of_mem_take hn)) (by simp; omega)]
    rw [List.getD_eq_getElem?_getD, List.getD_eq_getElem?_getD, List.getElem?_take, if_pos hil]
set_option maxRecDepth 100000 in
theorem open_bytes {H : Type} {enc : TypeId × Value → H} {w : World} {held : Bool} {v : Value} {d : DataW H} {ps : List MemPlace} {r : Reach} {b0 : Nat} (hv : Value.okWide Tryd.prog w r b0 25 v)
    (h : DataW.Trod enc Tryd.prog w 0 (fun _ => true) held 25 v d ps) (hs : ∀ n ∈ d.weights Tryd.prog 25, n ≤ reachBytes) : ∃ (p : Option Addr) (l : List UInt8) (cap : Nat), v = .slice p l.length cap ∧ l.length ≤ cap ∧ cap ≤ maxLen ∧ In w p l ∧ l.length ≤ 140737488351232 ∧ (p = none → cap = 0) := by
  obtain ⟨p, len, cap, rfl⟩ := okWide_slice Tryd.underlying25 hv
  obtain ⟨fuel, hf⟩ := h
  simp only [Value.cells] at hf
  rcases open_ints Tryd.underlying25 (k := .u8) (by kernel_rfl) (by kernel_rfl) hf with ⟨h0, _⟩ | ⟨a, l, c, ss, h0, _, hl, hm, hmm, hx, hi, hw⟩
  · simp only [List.cons.injEq, Value.slice.injEq, and_true] at h0
    obtain ⟨rfl, rfl, rfl⟩ := h0
    exact ⟨none, [], 0, rfl, by simp, Nat.zero_le _, fun i hi => absurd hi (Nat.not_lt_zero _), by simp, fun _ => rfl⟩
  · simp only [List.cons.injEq, Value.slice.injEq, and_true] at h0
    obtain ⟨rfl, rfl, rfl⟩ := h0
    simp only [if_true] at hmm
    obtain ⟨l', e, hin⟩ := in_of (w := w) (a := some a) (len := len) (C := cap) hl hmm hw (fun h => by cases h) (fun a' ha c hc => by cases ha; exact hi c (by omega))
    have hd := congrArg Prod.fst hx
    simp only at hd
    have hb : cap ≤ reachBytes := by
      have := hs ((((lits IntKind.u8 (ss.take len)) : List (DataW H)).length + ((lits IntKind.u8 (ss.drop len)) : List (DataW H)).length) * Tryd.prog.bytesOf 5) (by
        rw [hd]
        unfold DataW.weights
        rw [Tryd.underlying25]
        exact List.mem_cons_self ..)
      have h1 : Tryd.prog.bytesOf 5 = 1 := by kernel_rfl
      rw [h1] at this
      simp [lits, hmm] at this
      omega
    have hre : reachBytes = 140737488351232 := by decide
    subst e
    exact ⟨some a, l', cap, rfl, hl, hm, hin, by omega, fun h => by cases h⟩
end Go.Proofs.YtlinpkmfjkcoiaaDoor
