/- Contract of the catalog's Declare. -/
import Derived.Test.YtpfpganlghjhjaaDoorA7
import Derived.Deep.RegionWith
namespace Go.Proofs.YtpfpganlghjhjaaDoor
open Go Go.RowKit
set_option maxHeartbeats 4000000
set_option linter.unusedVariables false
set_option linter.unusedSimpArgs false
theorem run_len {w : World} {mB : Nat} {es : Array MapEntry} {clock : Nat} (hb : w.heap[mB]? = some (.map es clock)) (ty : TypeId) : (Builtin.len_ #[56] ty #[.map (some mB)]).run Tryd.prog w = .ok (.int .i64 es.size) w := by
  simp [Builtin.len_, run_underlying Tryd.underlying56, MapKept.run_getObj_map hb, goInt, Result.andThen]
/-- a list of attributes, as a value -/
def AtV (w : World) (v : Value) (l : List (ByteArray × Int)) : Prop :=
  (v = .slice none 0 0 ∧ l = []) ∨ ∃ b o c, v = .slice (some ⟨b, o, none⟩) l.length c ∧ 0 < l.length ∧ l.length ≤ c ∧ c ≤ maxLen ∧ AtRow w (some ⟨b, o, none⟩) l
theorem AtV.below {w w' : World} {v : Value} {l : List (ByteArray × Int)} (h : AtV w v l) (hb : Below w.heap.size w w') : AtV w' v l := by
  rcases h with h | ⟨b, o, c, h1, h2, h3, h4, h5⟩
  · exact .inl h
  · exact .inr ⟨b, o, c, h1, h2, h3, h4, h5.below hb⟩
theorem fault_v (name : ByteArray) (v : Value) (l : List (ByteArray × Int)) (w : World) (hK : Kw w) (hv : AtV w v l) :
    Calls Tryd.prog 19 #[.agg #[.string name, v]] w fun e w' => ∃ E, e = .returned (.int .i64 E) ∧ Below w.heap.size w w' ∧ FaultIs name.toList l E := by
  rcases hv with ⟨rfl, rfl⟩ | ⟨b, o, c, rfl, h0, hc, hm, hr⟩
  · exact fault_any name [] none 0 (Nat.le_refl _) (Nat.zero_le _) w hK (fun i hi => absurd hi (Nat.not_lt_zero _))
  · exact fault_any name l (some ⟨b, o, none⟩) c hc hm w hK hr
theorem clone_v (name : ByteArray) (v : Value) (l : List (ByteArray × Int)) (w : World) (h16 : l.length ≤ 16) (hv : AtV w v l) :
    Calls Tryd.prog 20 #[.agg #[.string name, v]] w fun e w' => ∃ v', e = .returned (.agg #[.string name, v']) ∧ Below w.heap.size w w' ∧ AtV w' v' l := by
  rcases hv with ⟨rfl, rfl⟩ | ⟨b, o, c, rfl, h0, hc, hm, hr⟩
  · exact (clone_nil name w).mono fun e w' ⟨h1, h2⟩ => ⟨_, h1, h2, .inl ⟨rfl, rfl⟩⟩
  · exact (clone_row name l b o c h0 h16 w hr).mono fun e w' ⟨g, cap, h1, h2, h3, h4, h5⟩ => ⟨_, h1, h2, .inr ⟨g, 0, cap, rfl, h0, h4, h5, h3⟩⟩
/-- a catalog: its block, its map's block, what the map holds -/
structure Cat (w : World) (cB mB : Nat) (es : Array MapEntry) (clock : Nat) : Prop where
  cell : w.cell? ⟨cB, 0, none⟩ = some (.map (some mB))
  heap : w.heap[mB]? = some (.map es clock)
theorem Cat.lt {w : World} {cB mB : Nat} {es : Array MapEntry} {clock : Nat} (h : Cat w cB mB es clock) : cB < w.heap.size ∧ mB < w.heap.size := by
  refine ⟨lt_of_cell h.cell, ?_⟩
  have := h.heap
  rcases Nat.lt_or_ge mB w.heap.size with hlt | hge
  · exact hlt
  · rw [Array.getElem?_eq_none hge] at this
    cases this
theorem Cat.below {w w' : World} {cB mB : Nat} {es : Array MapEntry} {clock : Nat} (h : Cat w cB mB es clock) (hb : Below w.heap.size w w') : Cat w' cB mB es clock :=
  ⟨(hb.cell (p := ⟨cB, 0, none⟩) h.lt.1).trans h.cell, heap_below hb h.lt.2 h.heap⟩
theorem not_map {w : World} {b o m : Nat} {v : Value} {es : Array MapEntry} {clock : Nat} (h : w.cell? ⟨b, o, none⟩ = some v) (hm : w.heap[m]? = some (.map es clock)) : b ≠ m := by
  intro e
  subst e
  simp [World.cell?, hm] at h
theorem cell_grown {w w' : World} {b o m : Nat} {v : Value} {es : Array MapEntry} {clock : Nat} (h : w.cell? ⟨b, o, none⟩ = some v) (hm : w.heap[m]? = some (.map es clock)) (hg : w.grownBy w' (some m)) : w'.cell? ⟨b, o, none⟩ = some v :=
  hg.cell h (fun e => not_map h hm (Option.some.inj e))
theorem AtV.grown {w w' : World} {v : Value} {l : List (ByteArray × Int)} {m : Nat} {es : Array MapEntry} {clock : Nat} (h : AtV w v l) (hm : w.heap[m]? = some (.map es clock)) (hg : w.grownBy w' (some m)) : AtV w' v l := by
  rcases h with h | ⟨b, o, c, h1, h2, h3, h4, h5⟩
  · exact .inl h
  · refine .inr ⟨b, o, c, h1, h2, h3, h4, fun i hi => ?_⟩
    obtain ⟨b', o', e, c1, c2⟩ := h5 i hi
    exact ⟨b', o', e, cell_grown c1 hm hg, cell_grown c2 hm hg⟩
theorem grown_of {w w9 : World} (h : Below w.heap.size w w9) (m : Nat) (es : Array MapEntry) (clock : Nat) : w.grownBy (upd w9 m es clock) (some m) :=
  ⟨h.os, h.tape, h.output, by simpa [upd] using h.size, fun k hk hne => ((upd_grown w9 m es clock).block k (Nat.lt_of_lt_of_le hk h.size) hne).trans (h.block k hk)⟩
/-- what Declare answers and does -/
def DecPost (name : ByteArray) (l : List (ByteArray × Int)) (w : World) (cB mB : Nat) (es : Array MapEntry) (clock : Nat) (r : Option (Nat × Value)) (e : Ending) (w' : World) : Prop :=
  ∃ F, FaultIs name.toList l F ∧
    ((F ≠ 0 ∧ e = .returned (.int .i64 F) ∧ Below w.heap.size w w') ∨
     (F = 0 ∧ r.isSome = true ∧ e = .returned (.int .i64 5) ∧ Below w.heap.size w w') ∨
     (F = 0 ∧ r = none ∧ 64 ≤ es.size ∧ e = .returned (.int .i64 4) ∧ Below w.heap.size w w') ∨
     (F = 0 ∧ r = none ∧ es.size < 64 ∧ e = .returned (.int .i64 0) ∧ w.grownBy w' (some mB) ∧ ∃ v', Cat w' cB mB (es.push { key := .string name, val := .agg #[.string name, v'], born := clock }) (clock + 1) ∧ AtV w' v' l))
set_option maxRecDepth 100000 in
theorem declare_any (name : ByteArray) (v : Value) (l : List (ByteArray × Int)) (cB mB : Nat) (es : Array MapEntry) (clock : Nat) (r : Option (Nat × Value)) (w : World) (hK : Kw w) (hv : AtV w v l) (hc : Cat w cB mB es clock) (hf : Found es name r) (hx : ∃ a p n c, (r.map (·.2)).getD (.agg #[.string ⟨#[]⟩, .slice none 0 0]) = .agg #[.string a, .slice p n c]) :
    Calls Tryd.prog 8 #[.pointer (some ⟨cB, 0, none⟩), .agg #[.string name, v]] w (DecPost name l w cB mB es clock r) := by
  have H0 : Hid (∀ o, Below w.heap.size w (w.alloc o)) := fun o => (Below.refl _ _).alloc (Nat.le_refl _) _
  have HK := Lib.hid hK
  have HV := Lib.hid hv
  have HC := Lib.hid hc
  have HF := Lib.hid hf
  clear hK hv hc hf
  go_enter Tryd.func8, Tryd.ntmps8
  go_wp2_with fail
  refine (fault_v name v l _ (HK.out.below (H0.out _)) (HV.out.below (H0.out _))).mono ?_
  rintro e w1 ⟨F, rfl, hb1, hF⟩
  have HFF := Lib.hid hF
  have HB1 : Hid (Below w.heap.size w w1) := (H0.out _).trans (hb1.mono (by simp))
  have x0 : w1.cell? ⟨w.heap.size, 0, none⟩ = some (.string name) := by rw [(bcell hb1).1 _ 0 (by simp)]; simp [go_sem]
  have x1 : w1.cell? ⟨w.heap.size, 1, none⟩ = some v := by rw [(bcell hb1).1 _ 1 (by simp)]; simp [go_sem]
  have z1 : w.heap.size < w1.heap.size := by have := hb1.size; simp at this; omega
  clear hb1 hF
  by_cases h0 : F = 0
  · subst h0
    have hC1 := HC.out.below HB1.out
    have y0 := hC1.cell
    have zc := hC1.lt.1
    have zm := hC1.lt.2
    have hh := hC1.heap
    have hlk : ∀ wx : World, wx.heap[mB]? = some (.map es clock) → (Instr.lookup 56 (.map (some mB)) (.string name) true).run Tryd.prog wx = .ok (.tuple #[(r.map (·.2)).getD (.agg #[.string ⟨#[]⟩, .slice none 0 0]), .bool r.isSome]) wx := fun wx hx => run_look hx HF.out
    obtain ⟨va, vp, vn, vc, hvv⟩ := hx
    rw [hvv] at hlk
    clear hvv
    have HS : Hid (∀ wx, Below w1.heap.size w1 wx → Below w1.heap.size w1 wx ∧ wx.cell? ⟨cB, 0, none⟩ = some (.map (some mB)) ∧ wx.cell? ⟨w.heap.size, 0, none⟩ = some (.string name) ∧ wx.heap[mB]? = some (.map es clock)) := fun wx hx => ⟨hx, (hx.cell (p := ⟨cB, 0, none⟩) zc).trans y0, (hx.cell (p := ⟨w.heap.size, 0, none⟩) z1).trans x0, heap_below hx zm hh⟩
    have HC1 := Lib.hid hC1
    clear hC1
    go_upto_region 4 with fail
    go_cut [7] from 8 to 37 (fun s wx => s = .bool r.isSome ∧ Below w1.heap.size w1 wx)
    case first =>
      go_region_held3 (fun wx => Below w1.heap.size w1 wx ∧ wx.cell? ⟨cB, 0, none⟩ = some (.map (some mB)) ∧ wx.cell? ⟨w.heap.size, 0, none⟩ = some (.string name) ∧ wx.heap[mB]? = some (.map es clock))
        ((refine HS.out _ ?_; repeat (first | assumption | exact held_below (by assumption) | exact Below.refl _ _ | apply Below.drew | refine Below.alloc ?_ (by first | exact Nat.le_refl _ | assumption | omega | (simp [World.setCell]; done) | (simp [World.setCell]; omega)) _ | refine Below.setCell ?_ (by first | exact Nat.le_refl _ | omega | (simp; done) | (simp; omega)) _)))
        (first | (go_at_call 99; fail))
      all_goals
        go_wp2_with fail
        go_meet
        first
        | exact ⟨rfl, held_below (by assumption)⟩
        | exact ⟨rfl, by assumption⟩
    case rest =>
    obtain ⟨rfl, hbx⟩ := hcut
    obtain ⟨wp, ewd⟩ : ∃ x, x = wc := ⟨_, rfl⟩
    subst ewd
    have HB2 : Hid (Below w.heap.size w wp) := HB1.out.trans (hbx.mono (by omega))
    have hC2 := HC1.out.below hbx
    have y2 := hC2.cell
    have hh2 := hC2.heap
    have zc2 := hC2.lt.1
    have zm2 := hC2.lt.2
    have n0 := (hbx.cell (p := ⟨w.heap.size, 0, none⟩) z1).trans x0
    have n1 := (hbx.cell (p := ⟨w.heap.size, 1, none⟩) z1).trans x1
    have zw : w.heap.size < wp.heap.size := by have := hbx.size; omega
    have HC2 := Lib.hid hC2
    clear hbx hC2 x0 x1 y0 hh hlk HS
    cases r with
    | some x =>
      go_wp2
      go_ret
      exact ⟨0, HFF.out, .inr (.inl ⟨rfl, rfl, rfl, HB2.out⟩)⟩
    | none =>
      have hln := run_len hh2
      by_cases h64 : 64 ≤ es.size
      · have d64 : decide ((64 : Int) ≤ (es.size : Int)) = true := by simp; omega
        go_wp2
        go_ret
        exact ⟨0, HFF.out, .inr (.inr (.inl ⟨rfl, rfl, h64, rfl, HB2.out⟩))⟩
      · have d64 : decide ((64 : Int) ≤ (es.size : Int)) = false := by simp; omega
        have h16 : Hid (l.length ≤ 16) := by
          rcases HFF.out with ⟨_, h⟩ | ⟨_, _, h⟩ | ⟨_, h, _⟩ | ⟨_, h, _⟩
          · cases h
          · cases h
          · exact h
          · exact h
        have HV2 := Lib.hid (HV.out.below HB2.out)
        have hst : ∀ (wx : World) (val : Value), wx.heap[mB]? = some (.map es clock) → (Instr.mapUpdate 56 (.map (some mB)) (.string name) val).run Tryd.prog wx = .ok () (upd wx mB (es.push { key := .string name, val := val, born := clock }) (clock + 1)) := fun wx val hx => run_store hx HF.out val
        go_wp2_with fail
        go_region_with (go_at_call 20; refine (clone_v name v l _ h16.out (HV2.out.below (Below.refl _ _).drew)).mono ?_; rintro e w9 ⟨v', rfl, hb9, hv9⟩; have k0 : w9.cell? ⟨w.heap.size, 0, none⟩ = some (.string name) := (hb9.cell (p := ⟨w.heap.size, 0, none⟩) (by exact zw)).trans n0; have k1 : w9.cell? ⟨cB, 0, none⟩ = some (.map (some mB)) := (hb9.cell (p := ⟨cB, 0, none⟩) (by exact zc2)).trans y2; have hm9 : w9.heap[mB]? = some (.map es clock) := heap_below hb9 (by exact zm2) hh2)
        all_goals
          have hB9 : Below w.heap.size w w9 := HB2.out.drew.trans (hb9.mono (by show w.heap.size ≤ wp.heap.size; omega))
          go_wp2
          go_ret
          exact ⟨0, HFF.out, .inr (.inr (.inr ⟨rfl, rfl, by omega, rfl, grown_of hB9 _ _ _, v', ⟨cell_grown k1 hm9 (upd_grown _ _ _ _), upd_heap hm9⟩, hv9.grown hm9 (upd_grown _ _ _ _)⟩))⟩
  · have hq : (F == 0) = false := by simp [h0]
    have H := Lib.hid h0
    clear h0
    go_wp2
    go_ret
    exact ⟨F, HFF.out, .inl ⟨H.out, rfl, HB1.out⟩⟩
end Go.Proofs.YtpfpganlghjhjaaDoor
