/- The laws' own function roomy: bytes with marks behind them. -/
import Derived.Test.YtlinpkmfjkcoiaaDoorH1
import Derived.Laws.OwnMore
namespace Go.Proofs.YtlinpkmfjkcoiaaDoor
open Go Go.RowKit
set_option maxHeartbeats 1000000
set_option linter.unusedVariables false
set_option linter.unusedSimpArgs false
def room66 (l : List UInt8) : List UInt8 := l ++ (List.range 66).map fun i => UInt8.ofNat (137 + i)
theorem room_len (l : List UInt8) : (room66 l).length = l.length + 66 := by simp [room66]
theorem room_front {l : List UInt8} {k : Nat} (h : k < l.length) : (Lib.byteCells (room66 l))[k]? = some (.int .u8 (l[k].toNat : Int)) := by
  unfold Lib.byteCells room66
  rw [List.getElem?_map, List.getElem?_append_left h, List.getElem?_eq_getElem h]
  rfl
theorem room_back {l : List UInt8} {k : Nat} (h : l.length ≤ k) (h2 : k < l.length + 66) : (Lib.byteCells (room66 l))[k]? = some (.int .u8 (137 + (k : Int) - (l.length : Int))) := by
  unfold Lib.byteCells room66
  rw [List.getElem?_map, List.getElem?_append_right h, List.getElem?_map, List.getElem?_range (by omega)]
  simp only [Option.map_some]
  rw [ofNat_small (by omega)]
  congr 2
  omega
theorem own_frozen {w : World} {B g n c : Nat} {xs : List Value} (h : w.ownsRow B 5 1 (.slice (some ⟨g, 0, none⟩) n c) n xs) (i : Nat) : w.frozen? ⟨g, i, none⟩ = false := by
  rcases h.2 with ⟨h1, _⟩ | ⟨g', cap, cur, h1, _, hb, _⟩
  · cases h1
  · simp only [Value.slice.injEq, Option.some.injEq, Addr.mk.injEq, and_true] at h1
    obtain ⟨rfl, _⟩ := h1
    simp [World.frozen?, hb]
theorem own_cell {w : World} {B g n c : Nat} {xs : List Value} (h : w.ownsRow B 5 1 (.slice (some ⟨g, 0, none⟩) n c) n xs) {i : Nat} {u : Value} (hi : xs[i]? = some u) : w.cell? ⟨g, i, none⟩ = some u := by
  have := h.cells (g := g) rfl i u hi
  rw [Addr.add_lit] at this
  simpa using this
/-- so many bytes are filled in -/
structure Filled (w wr : World) (G N : Nat) (l : List UInt8) (k : Nat) (xs : List Value) : Prop where
  own : wr.ownsRow G 5 1 (.slice (some ⟨G, 0, none⟩) N N) N xs
  len : xs.length = N
  blw : Below G w wr
  done : ∀ j, j < k → xs[j]? = (Lib.byteCells (room66 l))[j]?
theorem Filled.set {w wr : World} {G N : Nat} {l : List UInt8} {k j : Nat} {xs : List Value} (h : Filled w wr G N l k xs) (hj : k ≤ j) (u : Value) : Filled w (wr.setCell ⟨G, j, none⟩ u) G N l k (xs.set j u) :=
  ⟨(h.own.stored j u).1, by rw [List.length_set]; exact h.len, h.blw.setCell (Nat.le_refl _) _, fun i hi => by rw [List.getElem?_set_ne (by omega)]; exact h.done i hi⟩
theorem Filled.put {w wr : World} {G N : Nat} {l : List UInt8} {k : Nat} {xs : List Value} (h : Filled w wr G N l k xs) (hk : k < N) {u : Value} (hu : (Lib.byteCells (room66 l))[k]? = some u) : Filled w (wr.setCell ⟨G, k, none⟩ u) G N l (k + 1) (xs.set k u) := by
  have h1 := h.set (Nat.le_refl k) u
  refine ⟨h1.own, h1.len, h1.blw, fun i hi => ?_⟩
  by_cases hik : i = k
  · subst hik
    rw [List.getElem?_set_self (by rw [h.len]; exact hk), hu]
  · exact h1.done i (by omega)
set_option maxRecDepth 100000 in
theorem roomy_any (l : List UInt8) (p : Option Addr) (c : Nat) (w : World) (h : In w p l) (hm : l.length ≤ 140737488351232) :
    Calls Tryd.prog 24 #[.slice p l.length c] w fun e w' => e = .returned (.slice (some ⟨w.heap.size, 0, none⟩) (l.length + 66) (l.length + 66)) ∧ In w' (some ⟨w.heap.size, 0, none⟩) (room66 l) ∧ Below w.heap.size w w' := by
  obtain ⟨i0, hi, hz0, hz1, hz2⟩ := info_parts infoByte
  obtain ⟨G, hG⟩ : ∃ G, G = w.heap.size := ⟨_, rfl⟩
  obtain ⟨n, hn⟩ : ∃ n, n = l.length := ⟨_, rfl⟩
  obtain ⟨w1, hmk, hown, hgr⟩ := run_make_full (P := Tryd.prog) w G 25 5 i0 (.int .u8 0) 1 Tryd.underlying25 hi hz0 hz1 .i64 .i64 (n + 66) (by rw [hz2]; omega) (by unfold maxLen; omega) (by omega)
  rw [← hn] at hm ⊢
  rw [← hG] at hmk hown ⊢
  have hmk' : (Instr.makeSlice 25 (.int .i64 ((n : Int) + 66)) (.int .i64 ((n : Int) + 66))).run Tryd.prog w = .ok (.slice (some ⟨G, 0, none⟩) (n + 66) (n + 66)) w1 := by
    have e : ((n : Int) + 66) = ((n + 66 : Nat) : Int) := by omega
    rw [e]
    exact hmk
  have HN := Lib.hid hn
  have HI := Lib.hid h
  have HG := Lib.hid hG
  have hf : Filled w w1 G (n + 66) l 0 _ := ⟨hown, by have := hown.1; simpa using this, ⟨hgr.os, hgr.tape, hgr.output, hgr.size, fun k hk => hgr.block k (by omega) (by simp)⟩, fun j hj => absurd hj (Nat.not_lt_zero _)⟩
  have HF := Lib.hid hf
  have hsz : w.heap.size ≤ w1.heap.size := hgr.size
  clear hmk hown hgr hn h hf hG
  go_enter Tryd.func24, Tryd.ntmps24
  go_wp2
  go_loopw [5] (fun i wr => ∃ (k : Nat) (xs : List Value), k ≤ n + 66 ∧ i = .int .i64 k ∧ Filled w wr G (n + 66) l k xs) (fun i _ => n + 66 - (intOf i).toNat)
  case atStart => exact ⟨0, _, Nat.zero_le _, rfl, HF.out⟩
  case round =>
    obtain ⟨k, xs, hk, rfl, hfl⟩ := hrel
    have FL := Lib.hid hfl
    clear hfl hmk'
    by_cases hlt : k < n + 66
    · have hkx : k < xs.length := by rw [FL.out.len]; exact hlt
      have c0 := own_cell FL.out.own (List.getElem?_eq_getElem hkx)
      have z0 := own_frozen FL.out.own k
      by_cases hkn : k < n
      · have hkl : k < l.length := by rw [← HN.out]; exact hkn
        obtain ⟨b, o, rfl, d⟩ := HI.out k hkl
        have hbl := lt_of_cell d
        have hbG : b ≠ G := by have := HG.out; omega
        have d0 := (FL.out.blw.cell (p := ⟨b, o + k, none⟩) (by show b < G; have := HG.out; omega)).trans d
        obtain ⟨x, hx⟩ : ∃ x, x = l[k] := ⟨_, rfl⟩
        rw [← hx] at d0
        have HX := Lib.hid hx
        obtain ⟨u, hu⟩ : ∃ u, u = xs[k] := ⟨_, rfl⟩
        rw [← hu] at c0
        clear d hx hu
        go_wp2
        go_roundw
        case rel => exact ⟨k + 1, _, by omega, by go_num, (FL.out.set (Nat.le_refl k) _).put (by omega) (by rw [room_front (by rw [← HN.out]; exact hkn), HX.out])⟩
        case measure => simp [intOf]; omega
      · obtain ⟨u, hu⟩ : ∃ u, u = xs[k] := ⟨_, rfl⟩
        rw [← hu] at c0
        clear hu
        have hRB : Hid ((Lib.byteCells (room66 l))[k]? = some (.int .u8 (137 + (k : Int) - (n : Int)))) := by
          show _ = _
          rw [HN.out]
          exact room_back (by rw [← HN.out]; omega) (by rw [← HN.out]; omega)
        go_wp2
        go_roundw
        case rel => exact ⟨k + 1, _, by omega, by go_num, FL.out.put (by omega) hRB.out⟩
        case measure => simp [intOf]; omega
    · have hkk : k = n + 66 := by omega
      subst hkk
      go_wp2
      go_ret
      refine ⟨rfl, ?_, FL.out.blw⟩
      intro i hi
      rw [room_len, ← HN.out] at hi
      refine ⟨G, 0, rfl, ?_⟩
      have hx := FL.out.done i hi
      have hr : (Lib.byteCells (room66 l))[i]? = some (.int .u8 ((room66 l)[i]'(by rw [room_len, ← HN.out]; exact hi)).toNat) := by
        unfold Lib.byteCells
        rw [List.getElem?_map, List.getElem?_eq_getElem (by rw [room_len, ← HN.out]; exact hi)]
        rfl
      rw [hr] at hx
      rw [Nat.zero_add]
      exact own_cell FL.out.own hx
end Go.Proofs.YtlinpkmfjkcoiaaDoor
