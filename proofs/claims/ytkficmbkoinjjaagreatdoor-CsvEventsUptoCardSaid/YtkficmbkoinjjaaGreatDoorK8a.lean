/- The law CsvEvents: plain facts for its walk: cells of attributes and values, marks, an event or a row that came back. -/
import Derived.Test.YtkficmbkoinjjaaGreatDoorG9
import Derived.Test.YtkficmbkoinjjaaGreatDoorG10
import Derived.Test.YtkficmbkoinjjaaGreatDoorD7
import Derived.Test.YtkficmbkoinjjaaGreatDoorP11
import Derived.Test.YtkficmbkoinjjaaGreatDoorN3
namespace Go.Proofs.YtkficmbkoinjjaaGreatDoor.lawEvents
open Go Go.ChangeShapes Go.WideShapes Go.ChangeAt Go.RowKit
open V
set_option maxHeartbeats 1600000
set_option linter.unusedVariables false
set_option linter.unusedSimpArgs false
theorem infoAttr : (Tryz.prog.info? 52).map (fun i => (i.zero, i.size, i.bytes)) = some (some (.agg #[.string ⟨#[]⟩, .int .i64 0]), 2, 24) := by kernel_rfl
/-- the cells of attributes -/
def cells2 (l : List (ByteArray × Int)) : List Value := l.flatMap fun a => [.string a.1, .int .i64 a.2]
theorem cells2_snoc (l : List (ByteArray × Int)) (a : ByteArray × Int) : cells2 l ++ [.string a.1, .int .i64 a.2] = cells2 (l ++ [a]) := by simp [cells2]
theorem cells2_len (l : List (ByteArray × Int)) : (cells2 l).length = l.length * 2 := by
  induction l with
  | nil => rfl
  | cons v t ih => simp [cells2] at ih ⊢; omega
theorem cells2_at : ∀ {l : List (ByteArray × Int)} {i : Nat} (h : i < l.length), (cells2 l)[i * 2]? = some (.string l[i].1) ∧ (cells2 l)[i * 2 + 1]? = some (.int .i64 l[i].2)
  | v :: t, 0, _ => by simp [cells2]
  | v :: t, i + 1, h => by
    have ih := cells2_at (l := t) (i := i) (by simpa using h)
    have e : cells2 (v :: t) = .string v.1 :: .int .i64 v.2 :: cells2 t := by simp [cells2]
    rw [e]
    have e0 : (i + 1) * 2 = i * 2 + 2 := by omega
    rw [e0]
    simpa using ih
theorem cells2_one (l : List (ByteArray × Int)) : ∀ u ∈ cells2 l, u.oneCell' = true := by
  intro u hu
  simp only [cells2, List.mem_flatMap] at hu
  obtain ⟨a, _, hu⟩ := hu
  simp only [List.mem_cons, List.not_mem_nil, or_false] at hu
  rcases hu with rfl | rfl <;> rfl
theorem attr_news {w : World} {p : Option Addr} {l : List (ByteArray × Int)} (h : AtRow w p l) : ∀ ad, p = some ad → ∀ j u, (cells2 l)[j]? = some u → w.cell? (ad.add j) = some u := by
  intro ad hp j u hj
  have hjl : j < l.length * 2 := by
    have := (List.getElem?_eq_some_iff.1 hj).1
    rw [cells2_len] at this
    exact this
  have hi : j / 2 < l.length := by omega
  obtain ⟨b, o, e, c0, c1⟩ := h (j / 2) hi
  obtain ⟨h0, h1⟩ := cells2_at hi
  rw [hp] at e
  simp only [Option.some.injEq] at e
  subst e
  rw [Addr.add_lit]
  rcases Nat.mod_two_eq_zero_or_one j with hm | hm
  · have ej : j / 2 * 2 = j := by omega
    rw [ej] at h0 c0
    rw [h0] at hj
    rw [c0]
    exact hj
  · have ej : j / 2 * 2 + 1 = j := by omega
    rw [ej] at h1
    rw [h1] at hj
    rw [show o + j = o + j / 2 * 2 + 1 by omega, c1]
    exact hj
/-- an event that came back: made of the row, or zero with its error -/
def EvRel (w : World) (fresh : Nat) (nm : ByteArray) (kd : List Int) (C : List Cell) (s : ByteArray) (tm : Int) (p : Option Addr) (n c : Nat) (E : Int) : Prop :=
  (∀ a, p = some a → fresh ≤ a.block) ∧ ((E = 0 ∧ s = nm ∧ ∃ vl, n = vl.length ∧ ValRow w p vl ∧ Fits kd tm vl ∧ rowC tm vl = C) ∨ (E ≠ 0 ∧ s = ⟨#[]⟩ ∧ tm = 0 ∧ p = none ∧ n = 0 ∧ c = 0 ∧ (∀ tm vl, Fits kd tm vl → rowC tm vl ≠ C) ∧ EvE kd C E))
theorem evRel_of {w w' : World} {nm : ByteArray} {kd : List Int} {C : List Cell} {e : Ending} (h : EventIs w nm kd C e w') : ∃ (s : ByteArray) (tm : Int) (p : Option Addr) (n c : Nat) (E : Int), e = .returned (.tuple #[.agg #[.string s, .int .i64 tm, .slice p n c], .int .i64 E]) ∧ Below w.heap.size w w' ∧ EvRel w' w.heap.size nm kd C s tm p n c E := by
  obtain ⟨hb, h⟩ := h
  rcases h with ⟨tm, vl, p, c, rfl, h1, h2, h3, h4⟩ | ⟨E, h0, rfl, h1, h2⟩
  · exact ⟨nm, tm, p, vl.length, c, 0, rfl, hb, h2, .inl ⟨rfl, rfl, vl, rfl, h1, h3, h4⟩⟩
  · exact ⟨⟨#[]⟩, 0, none, 0, 0, E, rfl, hb, fun a ha => (by cases ha), .inr ⟨h0, rfl, rfl, rfl, rfl, rfl, h1, h2⟩⟩
theorem EvRel.below {w w' : World} {f : Nat} {nm : ByteArray} {kd : List Int} {C : List Cell} {s : ByteArray} {tm : Int} {p : Option Addr} {n c : Nat} {E : Int} (h : EvRel w f nm kd C s tm p n c E) (hb : Below w.heap.size w w') : EvRel w' 0 nm kd C s tm p n c E := by
  refine ⟨fun a _ => Nat.zero_le _, ?_⟩
  rcases h.2 with ⟨h1, h2, vl, h3, h4, h5⟩ | h
  · exact .inl ⟨h1, h2, vl, h3, h4.below hb, h5⟩
  · exact .inr h
theorem valRow_set {w : World} {p : Option Addr} {vl : List V4} (h : ValRow w p vl) {b' o' : Nat} {u : Value} (hne : ∀ a, p = some a → a.block ≠ b') : ValRow (w.setCell ⟨b', o', none⟩ u) p vl := by
  intro i hi
  obtain ⟨b, o, e, h1, h2, h3, h4⟩ := h i hi
  have hb : b ≠ b' := hne _ e
  have e' : (w.setCell ⟨b', o', none⟩ u).heap[b]? = w.heap[b]? := Below.heap_setCell _ _ _ _ (by simpa using hb)
  exact ⟨b, o, e, (World.cell?_of_block (a := ⟨b, o + i * 4, none⟩) e').trans h1, (World.cell?_of_block (a := ⟨b, o + i * 4 + 1, none⟩) e').trans h2, (World.cell?_of_block (a := ⟨b, o + i * 4 + 2, none⟩) e').trans h3, (World.cell?_of_block (a := ⟨b, o + i * 4 + 3, none⟩) e').trans h4⟩
theorem EvRel.set {w : World} {f : Nat} {nm : ByteArray} {kd : List Int} {C : List Cell} {s : ByteArray} {tm : Int} {p : Option Addr} {n c : Nat} {E : Int} (h : EvRel w f nm kd C s tm p n c E) {b o : Nat} {u : Value} (hb : b < f) : EvRel (w.setCell ⟨b, o, none⟩ u) f nm kd C s tm p n c E := by
  refine ⟨h.1, ?_⟩
  rcases h.2 with ⟨h1, h2, vl, h3, h4, h5⟩ | h'
  · exact .inl ⟨h1, h2, vl, h3, valRow_set h4 (fun a ha => by have := h.1 a ha; omega), h5⟩
  · exact .inr h'
/-- an event's three cells -/
def EvCells (w : World) (g : Nat) (s : ByteArray) (tm : Int) (p : Option Addr) (n c : Nat) : Prop := w.cell? ⟨g, 0, none⟩ = some (.string s) ∧ w.cell? ⟨g, 1, none⟩ = some (.int .i64 tm) ∧ w.cell? ⟨g, 2, none⟩ = some (.slice p n c)
/-- the first k marks -/
def mks (k : Nat) : List (ByteArray × Int) := (List.range k).map fun j => (⟨(wd j).toArray⟩, 0)
theorem mks_succ (k : Nat) : mks (k + 1) = mks k ++ [(⟨(wd k).toArray⟩, 0)] := by simp [mks, List.range_succ]
theorem mks_len (k : Nat) : (mks k).length = k := by simp [mks]
/-- the cells of values -/
def cells4 (l : List V4) : List Value := l.flatMap fun v => [.int .i64 v.k, .int .i64 v.n, .string v.s, .bool v.b]
theorem cells4_snoc (l : List V4) (v : V4) : cells4 l ++ [.int .i64 v.k, .int .i64 v.n, .string v.s, .bool v.b] = cells4 (l ++ [v]) := by simp [cells4]
theorem cells4_len (l : List V4) : (cells4 l).length = l.length * 4 := by
  induction l with
  | nil => rfl
  | cons v t ih => simp [cells4] at ih ⊢; omega
theorem cells4_at : ∀ {l : List V4} {i : Nat} (h : i < l.length), (cells4 l)[i * 4]? = some (.int .i64 l[i].k) ∧ (cells4 l)[i * 4 + 1]? = some (.int .i64 l[i].n) ∧ (cells4 l)[i * 4 + 2]? = some (.string l[i].s) ∧ (cells4 l)[i * 4 + 3]? = some (.bool l[i].b)
  | v :: t, 0, _ => by simp [cells4]
  | v :: t, i + 1, h => by
    have ih := cells4_at (l := t) (i := i) (by simpa using h)
    have e : cells4 (v :: t) = .int .i64 v.k :: .int .i64 v.n :: .string v.s :: .bool v.b :: cells4 t := by simp [cells4]
    rw [e]
    have e0 : (i + 1) * 4 = i * 4 + 4 := by omega
    rw [e0]
    simpa using ih
theorem cells4_one (l : List V4) : ∀ u ∈ cells4 l, u.oneCell' = true := by
  intro u hu
  simp only [cells4, List.mem_flatMap] at hu
  obtain ⟨a, _, hu⟩ := hu
  simp only [List.mem_cons, List.not_mem_nil, or_false] at hu
  rcases hu with rfl | rfl | rfl | rfl <;> rfl
theorem val_news {w : World} {p : Option Addr} {l : List V4} (h : ValRow w p l) : ∀ ad, p = some ad → ∀ j u, (cells4 l)[j]? = some u → w.cell? (ad.add j) = some u := by
  intro ad hp j u hj
  have hjl : j < l.length * 4 := by
    have := (List.getElem?_eq_some_iff.1 hj).1
    rw [cells4_len] at this
    exact this
  have hi : j / 4 < l.length := by omega
  obtain ⟨b, o, e, c0, c1, c2, c3⟩ := h (j / 4) hi
  obtain ⟨h0, h1, h2, h3⟩ := cells4_at hi
  rw [hp] at e
  simp only [Option.some.injEq] at e
  subst e
  rw [Addr.add_lit]
  have hm : j % 4 = 0 ∨ j % 4 = 1 ∨ j % 4 = 2 ∨ j % 4 = 3 := by omega
  rcases hm with hm | hm | hm | hm
  · have ej : j / 4 * 4 = j := by omega
    rw [ej] at h0 c0
    rw [h0] at hj
    rw [c0]
    exact hj
  · have ej : j / 4 * 4 + 1 = j := by omega
    rw [ej] at h1
    rw [h1] at hj
    rw [show o + j = o + j / 4 * 4 + 1 by omega, c1]
    exact hj
  · have ej : j / 4 * 4 + 2 = j := by omega
    rw [ej] at h2
    rw [h2] at hj
    rw [show o + j = o + j / 4 * 4 + 2 by omega, c2]
    exact hj
  · have ej : j / 4 * 4 + 3 = j := by omega
    rw [ej] at h3
    rw [h3] at hj
    rw [show o + j = o + j / 4 * 4 + 3 by omega, c3]
    exact hj
/-- the values of an own row, as they lie -/
theorem own_vals {w : World} {B g n c : Nat} {l : List V4} (h : w.ownsRow B 57 4 (.slice (some ⟨g, 0, none⟩) n c) n (cells4 l)) : ValRow w (some ⟨g, 0, none⟩) l := by
  intro i hi
  have x := fun j u hu => World.ownsRow.cells (g := g) h rfl j u hu
  obtain ⟨h0, h1, h2, h3⟩ := cells4_at hi
  have x0 := x _ _ h0
  have x1 := x _ _ h1
  have x2 := x _ _ h2
  have x3 := x _ _ h3
  rw [Addr.add_lit] at x0 x1 x2 x3
  exact ⟨g, 0, rfl, x0, x1, x2, x3⟩
/-- the k-th mark of an event -/
def mkv (k : Nat) : V4 := ⟨77 + k, 0, ⟨#[]⟩, false⟩
def mkvs (k : Nat) : List V4 := (List.range k).map mkv
theorem mkvs_succ (k : Nat) : mkvs (k + 1) = mkvs k ++ [mkv k] := by simp [mkvs, List.range_succ]
theorem mkvs_len (k : Nat) : (mkvs k).length = k := by simp [mkvs]
theorem mkvs_at {k j : Nat} (h : j < k) : (mkvs k)[j]? = some (mkv j) := by simp [mkvs, h]
theorem mks_at {k j : Nat} (h : j < k) : (mks k)[j]? = some (⟨(wd j).toArray⟩, 0) := by simp [mks, h]
theorem valRow_pre {w : World} {p : Option Addr} {a b : List V4} (h : ValRow w p (a ++ b)) : ValRow w p a := by
  intro i hi
  have := h i (by simp; omega)
  rw [List.getElem_append_left hi] at this
  exact this
/-- the kinds of the marks, as they lie -/
theorem valRow_mark {w : World} {g : Nat} {vl : List V4} (h : ValRow w (some ⟨g, 0, none⟩) (vl ++ mkvs 20)) {j : Nat} (hj : j < 20) : w.cell? ⟨g, (vl.length + j) * 4, none⟩ = some (.int .i64 (77 + (j : Int))) := by
  obtain ⟨b, o, e, c0, _⟩ := h (vl.length + j) (by simp [mkvs_len]; omega)
  simp only [Option.some.injEq, Addr.mk.injEq] at e
  obtain ⟨rfl, rfl, _⟩ := e
  have e2 : (vl ++ mkvs 20)[vl.length + j]'(by simp [mkvs_len]; omega) = mkv j := by
    have := mkvs_at (k := 20) hj
    rw [List.getElem_append_right (by omega)]
    simp only [Nat.add_sub_cancel_left]
    exact (List.getElem?_eq_some_iff.1 this).2
  rw [e2, Nat.zero_add] at c0
  exact c0
theorem infoVal : (Tryz.prog.info? 57).map (fun i => (i.zero, i.size, i.bytes)) = some (some (.agg #[.int .i64 0, .int .i64 0, .string ⟨#[]⟩, .bool false]), 4, 40) := by kernel_rfl
/-- a row that came back, or none with its error -/
def RowRel (w : World) (nm ty : ByteArray) (kd : List Int) (tm : Int) (vl : List V4) (p : Option Addr) (n : Nat) (E : Int) : Prop :=
  (E = 0 ∧ Fits kd tm vl ∧ ty = nm ∧ n = (rowC tm vl).length ∧ CellsIn w p (rowC tm vl)) ∨ (E ≠ 0 ∧ ¬(ty = nm ∧ Fits kd tm vl) ∧ n = 0 ∧ FltE nm ty kd tm vl E)
theorem rowRel_of {w w' : World} {nm ty : ByteArray} {kd : List Int} {tm : Int} {vl : List V4} {e : Ending} (h : RowIs2 w nm ty kd tm vl e w') : ∃ (p : Option Addr) (n c : Nat) (E : Int), e = .returned (.tuple #[.slice p n c, .int .i64 E]) ∧ Below w.heap.size w w' ∧ RowRel w' nm ty kd tm vl p n E := by
  obtain ⟨hb, h⟩ := h
  rcases h with ⟨h1, h2, v, rfl, h3⟩ | ⟨h1, E, h2, rfl, h3⟩
  · obtain ⟨p, c, rfl⟩ := own_form h3
    exact ⟨p, _, c, 0, rfl, hb, .inl ⟨rfl, h2, h1, rfl, (OutS.cellsIn h3).1⟩⟩
  · exact ⟨none, 0, 0, E, rfl, hb, .inr ⟨h2, h1, rfl, h3⟩⟩
theorem RowRel.below {w w' : World} {nm ty : ByteArray} {kd : List Int} {tm : Int} {vl : List V4} {p : Option Addr} {n : Nat} {E : Int} (h : RowRel w nm ty kd tm vl p n E) (hb : Below w.heap.size w w') : RowRel w' nm ty kd tm vl p n E := by
  rcases h with ⟨h1, h2, h3, h4, h5⟩ | h
  · exact .inl ⟨h1, h2, h3, h4, h5.below hb⟩
  · exact .inr h
theorem RowRel.both {w : World} {nm ty : ByteArray} {kd : List Int} {tm : Int} {vl : List V4} {p q : Option Addr} {n m : Nat} {E F : Int} (h : RowRel w nm ty kd tm vl p n E) (h' : RowRel w nm ty kd tm vl q m F) :
    E = F ∧ ∃ C : List Cell, n = C.length ∧ m = C.length ∧ CellsIn w p C ∧ CellsIn w q C ∧ C.length ≤ vl.length + 1 := by
  rcases h with ⟨h1, h2, h3, h4, h5⟩ | ⟨h1, h2, h3, h4⟩ <;> rcases h' with ⟨g1, g2, g3, g4, g5⟩ | ⟨g1, g2, g3, g4⟩
  · exact ⟨h1.trans g1.symm, rowC tm vl, h4, g4, h5, g5, by rw [rowC_len]; omega⟩
  · exact absurd ⟨h3, h2⟩ g2
  · exact absurd ⟨g3, g2⟩ h2
  · exact ⟨h4.same g4, [], h3, g3, fun j hj => absurd hj (Nat.not_lt_zero _), fun j hj => absurd hj (Nat.not_lt_zero _), by simp⟩
theorem below_drewN {B : Nat} {a w : World} (h : Below B a w) (n : Nat) : Below B a (w.drewN n) := ⟨h.os, h.tape, h.output, h.size, h.block⟩
theorem run_eqlIn_A (w : World) (s : ByteArray) (k : Int) :
    (Op.equalIn 10000 52 (.agg #[.string s, .int .i64 k]) (.agg #[.string s, .int .i64 k])).run Tryz.prog w = .ok true w := by
  have hf : (Tryz.prog.fieldsOf 52).toList = [{ name := "Name", type := 9, offset := 0, embedded := false, tag := "", pkgPath := "", byteOffset := 0 },
        { name := "Kind", type := 3, offset := 1, embedded := false, tag := "", pkgPath := "", byteOffset := 16 }] := by kernel_rfl
  rw [show (10000 : Nat) = 9998 + 1 + 1 from rfl, run_equalIn_agg w _ 52 _ _ (by kernel_rfl) (by kernel_rfl), hf]
  simp [Op.eqFields, go_sem]
theorem run_neq_A (w : World) (s : ByteArray) (k : Int) :
    (binOp .neq 52 (.agg #[.string s, .int .i64 k]) (.agg #[.string s, .int .i64 k])).run Tryz.prog w = .ok (.bool false) w := by
  rw [run_neq_struct, run_eqlIn_A]; rfl
end Go.Proofs.YtkficmbkoinjjaaGreatDoor.lawEvents
