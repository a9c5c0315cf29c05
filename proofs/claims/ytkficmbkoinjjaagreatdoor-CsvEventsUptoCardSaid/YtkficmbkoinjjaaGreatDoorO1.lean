/- Rows of one's own: bytes, and cells of text. -/
import Derived.Lib.AppendStr
import Derived.Lib.UnsafeStr
import Derived.OwnWalk
import Derived.Laws.BytesArg
import Derived.Laws.OwnMore
import Derived.Deep.AppendLies
import Derived.Test.YtkficmbkoinjjaaGreatDoorC2
namespace Go.Proofs.YtkficmbkoinjjaaGreatDoor
open Go Go.RowKit
set_option maxHeartbeats 2000000
set_option linter.unusedVariables false
set_option linter.unusedSimpArgs false
theorem infoByte : (Tryz.prog.info? 5).map (fun i => (i.zero, i.size, i.bytes)) = some (some (.int .u8 0), 1, 1) := by kernel_rfl
theorem infoStr : (Tryz.prog.info? 9).map (fun i => (i.zero, i.size, i.bytes)) = some (some (.string ⟨#[]⟩), 1, 16) := by kernel_rfl
theorem infoRow : (Tryz.prog.info? 22).map (fun i => (i.zero, i.size, i.bytes)) = some (some (.slice none 0 0), 1, 24) := by kernel_rfl
theorem size_toList (s : ByteArray) : s.toList.length = s.size := by rw [ByteArray.toList_eq]; simp
def In (w : World) (p : Option Addr) (l : List UInt8) : Prop := ∀ i (h : i < l.length), ∃ b o, p = some ⟨b, o, none⟩ ∧ w.cell? ⟨b, o + i, none⟩ = some (.int .u8 (l[i].toNat : Int))
/-- a row of bytes of one's own: it reads as l -/
def Out (w : World) (B : Nat) (v : Value) (l : List UInt8) : Prop := w.ownsRow B 5 1 v l.length (Lib.byteCells l)
theorem Out.of {w : World} {B : Nat} {v : Value} {n : Nat} {xs : List Value} {l : List UInt8} (h : w.ownsRow B 5 1 v n xs) (hn : n = l.length) (hx : xs = Lib.byteCells l) : Out w B v l := by subst hn; subst hx; exact h
/-- what writes on a row of its own: only that row and new blocks have turned; it lies where it lay, or in a new block -/
structure Wr (w w' : World) (v v' : Value) : Prop where
  g : w.grownBy w' v.ownBlock
  loc : v'.ownBlock = v.ownBlock ∨ ∀ k, v'.ownBlock = some k → w.heap.size ≤ k
theorem Wr.refl (w : World) (v : Value) : Wr w w v v := ⟨World.grownBy.refl w _, .inl rfl⟩
theorem Wr.trans {w w1 w2 : World} {v v1 v2 : Value} (h : Wr w w1 v v1) (k : Wr w1 w2 v1 v2) : Wr w w2 v v2 := by
  refine ⟨⟨k.g.os.trans h.g.os, k.g.tape.trans h.g.tape, k.g.output.trans h.g.output, Nat.le_trans h.g.size k.g.size, fun i hi hr => ?_⟩, ?_⟩
  · have hi1 := Nat.lt_of_lt_of_le hi h.g.size
    refine (k.g.block i hi1 ?_).trans (h.g.block i hi hr)
    rcases h.loc with e | e
    · rw [e]; exact hr
    · intro e2
      have := e i e2.symm
      omega
  · rcases k.loc with e | e
    · rw [e]; exact h.loc
    · exact .inr fun q hq => Nat.le_trans h.g.size (e q hq)
theorem Wr.alloc {w w2 : World} {v v2 : Value} {o : Obj} (h : Wr (w.alloc o) w2 v v2) : Wr w w2 v v2 := by
  have hg := World.grownBy_alloc w o v.ownBlock
  refine ⟨⟨h.g.os.trans hg.os, h.g.tape.trans hg.tape, h.g.output.trans hg.output, Nat.le_trans hg.size h.g.size, fun i hi hr => (h.g.block i (Nat.lt_of_lt_of_le hi hg.size) hr).trans (hg.block i hi hr)⟩, ?_⟩
  rcases h.loc with e | e
  · exact .inl e
  · exact .inr fun q hq => Nat.le_trans hg.size (e q hq)
theorem Wr.app {w w2 : World} {v : Value} {g n c : Nat} (hg : w.grownBy w2 v.ownBlock) (hw : v.ownBlock = some g ∨ g = w.heap.size) : Wr w w2 v (.slice (some ⟨g, 0, none⟩) n c) := by
  refine ⟨hg, ?_⟩
  rcases hw with e | e
  · exact .inl e.symm
  · refine .inr fun k hk => ?_
    simp only [Value.ownBlock, Option.some.injEq] at hk
    omega
theorem Wr.below {w w' : World} {v v' : Value} (h : Wr w w' v v') {B n : Nat} {xs : List Value} (ho : w.ownsRow B 5 1 v n xs) (hB : B ≤ w.heap.size) : Below B w w' := (Below.refl B w).grown h.g hB (fun q hq => (ho.lt q hq).1)
def Wrote (B : Nat) (w : World) (v : Value) (l : List UInt8) (e : Ending) (w' : World) : Prop := ∃ p c, e = .returned (.slice p l.length c) ∧ Out w' B (.slice p l.length c) l ∧ Wr w w' v (.slice p l.length c)
theorem lit_cells (w : World) (l : List Value) (t : TypeId) : ∀ j u, l[j]? = some u → (w.alloc (.cells l.toArray t)).cell? ((⟨w.heap.size, 0, none⟩ : Addr).add j) = some u := by
  intro j u h
  have hb : (w.alloc (.cells l.toArray t)).heap[w.heap.size]? = some (.cells l.toArray t (0, 0)) := heap_alloc_new w _
  have e : ((⟨w.heap.size, 0, none⟩ : Addr).add j) = ⟨w.heap.size, j, none⟩ := by unfold Addr.add; split <;> simp_all
  rw [e, cell_of_row _ _ j _ _ _ hb]
  simpa using h
theorem bytes_snoc (l : List UInt8) (b : UInt8) : Lib.byteCells l ++ [.int .u8 b.toNat] = Lib.byteCells (l ++ [b]) := by simp [Lib.byteCells]
theorem Out.inn {w : World} {B : Nat} {p : Option Addr} {n c : Nat} {l : List UInt8} (h : Out w B (.slice p n c) l) : In w p l ∧ l.length ≤ c ∧ c ≤ maxLen := by
  rcases h.2 with ⟨e, e0⟩ | ⟨g, cap, cur, e, _, hb, h2, h3, h4, h5⟩
  · simp only [Value.slice.injEq] at e
    obtain ⟨rfl, rfl, rfl⟩ := e
    have hl := List.eq_nil_of_length_eq_zero e0
    subst hl
    exact ⟨fun i hi => absurd hi (Nat.not_lt_zero _), by simp, Nat.zero_le _⟩
  · simp only [Value.slice.injEq] at e
    obtain ⟨rfl, rfl, rfl⟩ := e
    refine ⟨fun i hi => ⟨g, 0, rfl, ?_⟩, h2, h3⟩
    have hc := World.ownsRow.cells (g := g) h rfl i _ (by unfold Lib.byteCells; rw [List.getElem?_map, List.getElem?_eq_getElem hi]; rfl)
    rw [Addr.add_lit] at hc
    exact hc
theorem run_str {w : World} {p : Option Addr} {l : List UInt8} (h : In w p l) (c : Nat) : (convert 87 9 (.slice p l.length c)).run Tryz.prog w = .ok (.string ⟨l.toArray⟩) w := by
  by_cases h0 : l = []
  · subst h0
    rw [List.length_nil, run_convert_bytes_string w 87 9 5 p 0 c Tryz.underlying87 Tryz.underlying5 Tryz.underlying9]
    cases p <;> simp [Conv.bytesToString, loadCells]
    all_goals rfl
  · obtain ⟨b, o, rfl, _⟩ := h 0 (List.length_pos_iff.2 h0)
    have := run_convert_bytes_arg (P := Tryz.prog) w 87 5 Tryz.underlying87 Tryz.underlying5 b o l.length c (l.map fun x => (x.toNat : Int)) (by simp) (fun i hi => by
      obtain ⟨b', o', e, hh⟩ := h i hi
      simp only [Option.some.injEq, Addr.mk.injEq, and_true] at e
      obtain ⟨rfl, rfl⟩ := e
      rw [hh]
      simp [hi]) 9 Tryz.underlying9
    have hm : (l.map fun x => (x.toNat : Int)).map (fun n => UInt8.ofNat n.toNat) = l := by
      rw [List.map_map]
      conv => rhs; rw [← List.map_id l]
      exact List.map_congr_left fun x _ => by simp
    have e : strOfNums (l.map fun x => (x.toNat : Int)) = ⟨l.toArray⟩ := by unfold strOfNums; rw [hm]
    rw [e] at this
    exact this
theorem Out.base {w : World} {B B' : Nat} {v : Value} {l : List UInt8} (h : Out w B v l) (hB : B' ≤ B) : Out w B' v l := by
  refine ⟨h.1, ?_⟩
  rcases h.2 with h2 | ⟨g, cap, cur, e, hg, h2⟩
  · exact .inl h2
  · exact .inr ⟨g, cap, cur, e, Nat.le_trans hB hg, h2⟩
theorem Out.below {w w' : World} {B : Nat} {v : Value} {l : List UInt8} (h : Out w B v l) (hb : Below w.heap.size w w') : Out w' B v l := by
  have hg : w.grownBy w' none := ⟨hb.os, hb.tape, hb.output, hb.size, fun i hi _ => hb.block i hi⟩
  refine World.ownsRow.kept h hg ?_
  rcases h.2 with ⟨rfl, _⟩ | ⟨g, cap, cur, rfl, hgB, _⟩
  · exact .inl rfl
  · refine .inr fun e => ?_
    simp only [Value.ownBlock] at e
    cases e
theorem Out.nil (w : World) (B : Nat) : Out w B (.slice none 0 0) [] := World.ownsRow_nil _ _ _ _
/-- where a row lies behind the append of a string's bytes -/
theorem str_where (w : World) (base : Nat) (i : TypeInfo) (hi : Tryz.prog.info? 5 = some i) (hz : i.zero = some (.int .u8 0)) (hsize : i.size = 1) (hby : i.bytes = 1) (v : Value) (n : Nat) (xs : List Value) (hown : w.ownsRow base 5 1 v n xs) (s : ByteArray)
    (h63 : n + s.size ≤ maxLen) (hbytes : n + s.size ≤ 140737488355328) (ty : TypeId) {v' : Value} {w' : World} (hr : (Builtin.append_ #[87, 9] ty #[v, .string s]).run Tryz.prog w = .ok v' w') : v'.ownBlock = v.ownBlock ∨ v'.ownBlock = some w.heap.size := by
  have hsmall : n + s.size ≤ 9223372036854775807 := by simp only [maxLen] at h63; omega
  have hxl : xs.length = n := by simpa using hown.1
  rcases hown.2 with ⟨rfl, rfl⟩ | ⟨g, cap, cur, rfl, hbg, hg, hnc, hcm, hcs, htake⟩
  · by_cases hm : s.size = 0
    · have hf := Lib.run_firstCells_string (P := Tryz.prog) w 1 s
      rw [hm] at hf
      have : (Builtin.append_ #[87, 9] ty #[.slice none 0 0, .string s]).run Tryz.prog w = .ok (.slice none 0 0) w := by
        simp [Builtin.append_, run_underlying Tryz.underlying87, run_underlying Tryz.underlying9, sizeOf, typeInfo, hi, hsize, Builtin.lenOf, hm, hf]
      rw [this] at hr
      injection hr with h1 h2
      subst h1
      exact .inl rfl
    · have := run_append_nil_string (P := Tryz.prog) w 87 9 ty 5 i (.int .u8 0) Tryz.underlying87 Tryz.underlying9 hi hz s (by omega) (by omega) (by rw [hby]; omega)
      rw [this] at hr
      injection hr with h1 h2
      subst h1
      exact .inr rfl
  · by_cases hroom : n + s.size ≤ cap
    · have := Lib.run_append_room_string (P := Tryz.prog) w 87 9 ty 5 i Tryz.underlying87 Tryz.underlying9 hi hsize g n cap cur hg s hroom (by rw [hcs]; omega)
      rw [this] at hr
      injection hr with h1 h2
      subst h1
      exact .inl rfl
    · have holds : ∀ j u, xs[j]? = some u → w.cell? ((⟨g, 0, none⟩ : Addr).add j) = some u := hown.cells (g := g) rfl
      have := Lib.run_append_grow_string (P := Tryz.prog) w 87 9 ty 5 i (.int .u8 0) Tryz.underlying87 Tryz.underlying9 hi hz ⟨g, 0, none⟩ n cap xs (by rw [hsize]; simpa using hxl) holds s (by omega) (by omega) (by rw [hby]; exact growslice_fits (by omega) (by omega))
      rw [this] at hr
      injection hr with h1 h2
      subst h1
      exact .inr rfl
theorem wpList_str {w : World} {ops : Array Oper} {rest : List Oper} {o : Oper} {a : Act} {Q : Exit → Act → World → Prop} (hgd : o.guard = none) (sl x : Operand)
    (ho : o.op = .call { callee := .builtin .append, args := #[sl, x], argTypes := #[87, 9] }) (B : Nat) (i : TypeInfo) (hi : Tryz.prog.info? 5 = some i) (hz : i.zero = some (.int .u8 0)) (hsize : i.size = 1) (hby : i.bytes = 1)
    (v : Value) (l : List UInt8) (hs : a.eval sl = v) (hown : Out w B v l) (s : ByteArray) (hx : a.eval x = .string s)
    (h63 : l.length + s.size ≤ maxLen) (hbytes : l.length + s.size ≤ 140737488355328) (hB : B ≤ w.heap.size)
    (h : ∀ p c w', Out w' B (.slice p (l.length + s.size) c) (l ++ s.toList) → Wr w w' v (.slice p (l.length + s.size) c) → wpList Tryz.prog ops Q rest (a.put o.dst (.slice p (l.length + s.size) c)) w') : wpList Tryz.prog ops Q (o :: rest) a w := by
  refine wpList_plain hgd fun K hK => ?_
  obtain ⟨v', w', hr, h2, h3, _⟩ := Lib.run_append_own_string (P := Tryz.prog) w B 87 9 o.type 5 i Tryz.underlying87 Tryz.underlying9 hi hz hsize hby v l.length (Lib.byteCells l) hown s h63 hbytes hB
  have hw := str_where w B i hi hz hsize hby v l.length (Lib.byteCells l) hown s h63 hbytes o.type hr
  have hOut : Out w' B v' (l ++ s.toList) := Out.of h2 (by simp [size_toList]) (by rw [ByteArray.toList_eq]; simp [Lib.byteCells, Lib.strCells])
  have hform : ∃ p c, v' = .slice p (l.length + s.size) c := by
    rcases h2.2 with ⟨e, e0⟩ | ⟨g, cap, cur, e, _⟩
    · exact ⟨none, 0, by rw [e, e0]⟩
    · exact ⟨_, _, e⟩
  obtain ⟨p, c, rfl⟩ := hform
  have hWr : Wr w w' v (.slice p (l.length + s.size) c) := by
    refine ⟨h3, ?_⟩
    rcases hw with e | e
    · exact .inl e
    · refine .inr fun k hk => ?_
      rw [e] at hk
      simp only [Option.some.injEq] at hk
      omega
  unfold Oper.wp execOp
  simp only [ho, resolve, invoke, builtin, Sem.run_bind, Sem.run_pure, Result.andThen_ok, List.map_toArray, List.map_cons, List.map_nil, hs, hx, hr]
  exact hK _ _ (h p c w' hOut hWr)

/-- cells of text, as they lie -/
def strs (C : List Cell) : List Value := C.map fun c => .string ⟨c.toArray⟩
theorem strs_snoc (C : List Cell) (c : Cell) : strs C ++ [.string ⟨c.toArray⟩] = strs (C ++ [c]) := by simp [strs]
theorem strs_len (C : List Cell) : (strs C).length = C.length := by simp [strs]
/-- a row of cells of one's own -/
def OutS (w : World) (B : Nat) (v : Value) (C : List Cell) : Prop := w.ownsRow B 9 1 v C.length (strs C)
theorem OutS.nil (w : World) (B : Nat) : OutS w B (.slice none 0 0) [] := World.ownsRow_nil _ _ _ _
theorem own_kept_any {w w' : World} {B : Nat} {ty : TypeId} {sz n : Nat} {v : Value} {xs : List Value} (h : w.ownsRow B ty sz v n xs) (hb : Below w.heap.size w w') : w'.ownsRow B ty sz v n xs := by
  have hg : w.grownBy w' none := ⟨hb.os, hb.tape, hb.output, hb.size, fun i hi _ => hb.block i hi⟩
  refine World.ownsRow.kept h hg ?_
  cases hv : v.ownBlock with
  | none => exact .inl rfl
  | some g => exact .inr (by simp)
theorem own_aside {w w' : World} {B R : Nat} {ty : TypeId} {sz n : Nat} {v : Value} {xs : List Value} (h : w.ownsRow B ty sz v n xs) (hg : w.grownBy w' (some R)) (hR : R < B) : w'.ownsRow B ty sz v n xs := by
  refine World.ownsRow.kept h hg ?_
  cases hv : v.ownBlock with
  | none => exact .inl rfl
  | some g =>
    refine .inr fun e => ?_
    have := (World.ownsRow.lt h g hv).1
    simp only [Option.some.injEq] at e
    omega
/-- rows of two kinds lie in two blocks -/
theorem own_apart {w : World} {B B' : Nat} {t t' : TypeId} {s s' : Nat} {v u : Value} {n m : Nat} {xs ys : List Value} (h : w.ownsRow B t s v n xs) (k : w.ownsRow B' t' s' u m ys) (hne : t ≠ t') : v.ownBlock = none ∨ v.ownBlock ≠ u.ownBlock := by
  rcases h.2 with ⟨rfl, _⟩ | ⟨g, cap, cur, rfl, _, hb, _⟩
  · exact .inl rfl
  · refine .inr fun e => ?_
    rcases k.2 with ⟨rfl, _⟩ | ⟨g', cap', cur', rfl, _, hb', _⟩
    · cases e
    · simp only [Value.ownBlock, Option.some.injEq] at e
      subst e
      rw [hb] at hb'
      simp only [Option.some.injEq, Obj.cells.injEq] at hb'
      exact absurd hb'.2.1 hne
theorem own_slice {w : World} {B : Nat} {ty : TypeId} {sz n : Nat} {v : Value} {xs : List Value} (h : w.ownsRow B ty sz v n xs) : ∃ p c, v = .slice p n c := by
  rcases h.2 with ⟨rfl, rfl⟩ | ⟨g, cap, cur, rfl, _⟩
  · exact ⟨none, 0, rfl⟩
  · exact ⟨_, _, rfl⟩
end Go.Proofs.YtkficmbkoinjjaaGreatDoor
