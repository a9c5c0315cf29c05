/- Events as rows: plain facts: a value's cell; one row, one event; a row of an event that is written is not too long. -/
import Derived.Test.YtkficmbkoinjjaaGreatDoorVR1
import Derived.Test.YtkficmbkoinjjaaGreatDoorB1
namespace Go.Proofs.YtkficmbkoinjjaaGreatDoor
open Go Go.RowKit
open V
set_option maxHeartbeats 1000000
set_option linter.unusedVariables false
set_option linter.unusedSimpArgs false
/-- a value, as its four parts -/
structure V4 where
  k : Int
  n : Int
  s : ByteArray
  b : Bool
abbrev agg4 (v : V4) : Value := .agg #[.int .i64 v.k, .int .i64 v.n, .string v.s, .bool v.b]
/-- a value that may be -/
def Ok4 (v : V4) : Prop := valid v.k v.n v.s v.b = true ∧ I64 v.n
/-- a value's cell -/
def cellV (v : V4) : Cell := if v.k = 2 then v.s.data.toList else showT v.k v.n v.s v.b
theorem Ok4.kind {v : V4} (h : Ok4 v) : v.k = 1 ∨ v.k = 2 ∨ v.k = 3 := valid_kind h.1
theorem cellV_inj {v v' : V4} (h : Ok4 v) (h' : Ok4 v') (hk : v.k = v'.k) (he : cellV v = cellV v') : v = v' := by
  obtain ⟨k, n, s, b⟩ := v
  obtain ⟨k', n', s', b'⟩ := v'
  simp only at hk
  subst hk
  unfold cellV at he
  simp only at he
  by_cases h2 : k = 2
  · subst h2
    rw [if_pos rfl, if_pos rfl] at he
    have e1 := valid_2' h.1
    have e2 := valid_2' h'.1
    simp only at e1 e2
    rw [e1.1, e1.2, e2.1, e2.2, bytes_ext he]
  · rw [if_neg h2, if_neg h2] at he
    obtain ⟨_, e1, e2, e3⟩ := showT_inj h.1 h'.1 h.2 h'.2 he
    simp only at e1 e2 e3
    rw [e1, e2, e3]
theorem cellV_len {v : V4} (h : Ok4 v) : (cellV v).length ≤ 1026 := by
  obtain ⟨k, n, s, b⟩ := v
  unfold cellV
  simp only
  by_cases h2 : k = 2
  · subst h2
    rw [if_pos rfl]
    have := valid_two h.1
    simp only at this
    rw [← Lib.size_eq]
    omega
  · rw [if_neg h2]
    exact (showT_len h.1 h.2).2
/-- a number's value -/
def numV (n : Int) : V4 := ⟨1, n, ⟨#[]⟩, false⟩
theorem numV_ok {n : Int} (h : I64 n) : Ok4 (numV n) := ⟨by simp [numV, valid, veq], h⟩
/-- a time that may be -/
def TmOk (n : Int) : Prop := 0 ≤ n ∧ n ≤ 4611686018427387904
theorem TmOk.i64 {n : Int} (h : TmOk n) : I64 n := by obtain ⟨h1, h2⟩ := h; unfold I64; omega
/-- an event's time and values fit a type's kinds -/
def Fits (kd : List Int) (tm : Int) (vl : List V4) : Prop := TmOk tm ∧ vl.map (·.k) = kd ∧ ∀ v ∈ vl, Ok4 v
theorem Fits.len {kd : List Int} {tm : Int} {vl : List V4} (h : Fits kd tm vl) : vl.length = kd.length := by rw [← h.2.1, List.length_map]
/-- an event's row -/
def rowC (tm : Int) (vl : List V4) : List Cell := cellV (numV tm) :: vl.map cellV
theorem rowC_len (tm : Int) (vl : List V4) : (rowC tm vl).length = vl.length + 1 := by simp [rowC]
theorem cells_inj : ∀ {a b : List V4}, (∀ v ∈ a, Ok4 v) → (∀ v ∈ b, Ok4 v) → a.map (·.k) = b.map (·.k) → a.map cellV = b.map cellV → a = b
  | [], [], _, _, _, _ => rfl
  | [], y :: b, _, _, h, _ => by cases h
  | x :: a, [], _, _, h, _ => by cases h
  | x :: a, y :: b, h1, h2, hk, hc => by
    simp only [List.map_cons, List.cons.injEq] at hk hc
    rw [cellV_inj (h1 x (by simp)) (h2 y (by simp)) hk.1 hc.1, cells_inj (fun v hv => h1 v (by simp [hv])) (fun v hv => h2 v (by simp [hv])) hk.2 hc.2]
theorem rowC_inj {kd : List Int} {tm tm' : Int} {vl vl' : List V4} (h : Fits kd tm vl) (h' : Fits kd tm' vl') (he : rowC tm vl = rowC tm' vl') : tm = tm' ∧ vl = vl' := by
  unfold rowC at he
  simp only [List.cons.injEq] at he
  have h1 := cellV_inj (numV_ok h.1.i64) (numV_ok h'.1.i64) rfl he.1
  refine ⟨by unfold numV at h1; exact (V4.mk.inj h1).2.1, cells_inj h.2.2 h'.2.2 (h.2.1.trans h'.2.1.symm) he.2⟩
theorem row_cells {kd : List Int} {tm : Int} {vl : List V4} (h : Fits kd tm vl) : ∀ c ∈ rowC tm vl, c.length ≤ 1026 := by
  intro c hc
  simp only [rowC, List.mem_cons, List.mem_map] at hc
  rcases hc with rfl | ⟨v, hv, rfl⟩
  · exact cellV_len (numV_ok h.1.i64)
  · exact cellV_len (h.2.2 v hv)
theorem row_ne (tm : Int) (vl : List V4) : rowC tm vl ≠ [] := by simp [rowC]
/-- a row of values lies there -/
def ValRow (w : World) (p : Option Addr) (vl : List V4) : Prop := ∀ i (h : i < vl.length), ∃ b o, p = some ⟨b, o, none⟩ ∧ w.cell? ⟨b, o + i * 4, none⟩ = some (.int .i64 vl[i].k) ∧ w.cell? ⟨b, o + i * 4 + 1, none⟩ = some (.int .i64 vl[i].n) ∧ w.cell? ⟨b, o + i * 4 + 2, none⟩ = some (.string vl[i].s) ∧ w.cell? ⟨b, o + i * 4 + 3, none⟩ = some (.bool vl[i].b)
theorem ValRow.below {w w' : World} {p : Option Addr} {vl : List V4} (h : ValRow w p vl) (hb : Below w.heap.size w w') : ValRow w' p vl := by
  intro i hi
  obtain ⟨b, o, e, h1, h2, h3, h4⟩ := h i hi
  have hl := lt_of_cell h1
  exact ⟨b, o, e, (hb.cell (p := ⟨b, o + i * 4, none⟩) hl).trans h1, (hb.cell (p := ⟨b, o + i * 4 + 1, none⟩) hl).trans h2, (hb.cell (p := ⟨b, o + i * 4 + 2, none⟩) hl).trans h3, (hb.cell (p := ⟨b, o + i * 4 + 3, none⟩) hl).trans h4⟩
theorem ValRow.nth {w : World} {p : Option Addr} {vl : List V4} (h : ValRow w p vl) {k : Nat} (hk : k < vl.length) : ∃ (vk vn : Int) (vs : ByteArray) (vb : Bool) (b o : Nat), vl[k]? = some ⟨vk, vn, vs, vb⟩ ∧ p = some ⟨b, o, none⟩ ∧ w.cell? ⟨b, o + k * 4, none⟩ = some (.int .i64 vk) ∧ w.cell? ⟨b, o + k * 4 + 1, none⟩ = some (.int .i64 vn) ∧ w.cell? ⟨b, o + k * 4 + 2, none⟩ = some (.string vs) ∧ w.cell? ⟨b, o + k * 4 + 3, none⟩ = some (.bool vb) := by
  obtain ⟨b, o, e, h1, h2, h3, h4⟩ := h k hk
  exact ⟨_, _, _, _, b, o, List.getElem?_eq_getElem hk, e, h1, h2, h3, h4⟩
/-- a row of attributes lies there -/
def AtRow (w : World) (p : Option Addr) (l : List (ByteArray × Int)) : Prop := ∀ i (h : i < l.length), ∃ b o, p = some ⟨b, o, none⟩ ∧ w.cell? ⟨b, o + i * 2, none⟩ = some (.string l[i].1) ∧ w.cell? ⟨b, o + i * 2 + 1, none⟩ = some (.int .i64 l[i].2)
theorem AtRow.below {w w' : World} {p : Option Addr} {l : List (ByteArray × Int)} (h : AtRow w p l) (hb : Below w.heap.size w w') : AtRow w' p l := by
  intro i hi
  obtain ⟨b, o, e, h1, h2⟩ := h i hi
  have hl := lt_of_cell h1
  exact ⟨b, o, e, (hb.cell (p := ⟨b, o + i * 2, none⟩) hl).trans h1, (hb.cell (p := ⟨b, o + i * 2 + 1, none⟩) hl).trans h2⟩
theorem AtRow.nth {w : World} {p : Option Addr} {l : List (ByteArray × Int)} (h : AtRow w p l) {k : Nat} (hk : k < l.length) : ∃ (an : ByteArray) (ak : Int) (b o : Nat), l[k]? = some (an, ak) ∧ p = some ⟨b, o, none⟩ ∧ w.cell? ⟨b, o + k * 2, none⟩ = some (.string an) ∧ w.cell? ⟨b, o + k * 2 + 1, none⟩ = some (.int .i64 ak) := by
  obtain ⟨b, o, e, h1, h2⟩ := h k hk
  exact ⟨_, _, b, o, List.getElem?_eq_getElem hk, e, h1, h2⟩
/-- the kinds of attributes -/
def kdL (l : List (ByteArray × Int)) : List Int := l.map (·.2)
theorem kdL_at {l : List (ByteArray × Int)} {k : Nat} {an : ByteArray} {ak : Int} (h : l[k]? = some (an, ak)) : (kdL l)[k]? = some ak := by simp [kdL, h]
end Go.Proofs.YtkficmbkoinjjaaGreatDoor
