/- Contract of the reader's value. -/
import Derived.Test.YtlinpkmfjkcoiaaDoorR5
import Derived.Deep.CutBlock
import Derived.Deep.DeepCutAuto
import Derived.Deep.CutRange
namespace Go.Proofs.YtlinpkmfjkcoiaaDoor
open Go Go.RowKit
set_option maxHeartbeats 4000000
set_option linter.unusedVariables false
set_option linter.unusedSimpArgs false
abbrev agg4 (v : V4) : Value := .agg #[.int .i64 v.k, .int .i64 v.n, .string v.s, .bool v.b]
def Val (w : World) (R : Nat) (sv : Value) (l : List UInt8) (a : Nat) (f : Int) (e : Ending) (w' : World) : Prop :=
  ∃ (v : V4) (a' : Nat) (f' : Int), e = .returned (agg4 v) ∧ After w w' R sv l.length a' f' ∧ Came a a' f f' (valR (l.drop a)) (· = v)
theorem After.alloc {w w' : World} {R : Nat} {sv : Value} {n a : Nat} {f : Int} (h : After w w' R sv n a f) (o : Obj) : After w (w'.alloc o) R sv n a f :=
  ⟨Lib.grownBy_allocR h.g o, h.r.below ((Below.refl _ _).alloc (Nat.le_refl _) o), h.le⟩
theorem After.set {w w' : World} {R : Nat} {sv : Value} {n a : Nat} {f : Int} (h : After w w' R sv n a f) {b : Nat} (hb : w.heap.size ≤ b) (hR : R < w.heap.size) (o : Nat) (v : Value) : After w (w'.setCell ⟨b, o, none⟩ v) R sv n a f := by
  refine ⟨⟨h.g.os, h.g.tape, h.g.output, ?_, fun i hi hr => ?_⟩, ?_, h.le⟩
  · have := h.g.size
    simp [World.setCell]
    exact this
  · rw [Below.heap_setCell _ _ _ _ (by simp; omega)]
    exact h.g.block i hi hr
  · obtain ⟨c0, c1, c2, z1, z2⟩ := h.r
    have e : (w'.setCell ⟨b, o, none⟩ v).heap[R]? = w'.heap[R]? := Below.heap_setCell _ _ _ _ (by simp; omega)
    exact ⟨(World.cell?_of_block (a := ⟨R, 0, none⟩) e).trans c0, (World.cell?_of_block (a := ⟨R, 1, none⟩) e).trans c1, (World.cell?_of_block (a := ⟨R, 2, none⟩) e).trans c2, (World.frozen?_of_block (a := ⟨R, 1, none⟩) e).trans z1, (World.frozen?_of_block (a := ⟨R, 2, none⟩) e).trans z2⟩
theorem frozen_keeps {w w' : World} {R b : Nat} (hg : w.grownBy w' (some R)) (h : b < w.heap.size) (hne : b ≠ R) (o : Nat) : w'.frozen? ⟨b, o, none⟩ = w.frozen? ⟨b, o, none⟩ :=
  World.frozen?_of_block (a := ⟨b, o, none⟩) (hg.block b h (by simpa using hne))
/-- a block of a value's four cells that may be written -/
structure Four (w : World) (b : Nat) (v : V4) : Prop where
  c0 : w.cell? ⟨b, 0, none⟩ = some (.int .i64 v.k)
  c1 : w.cell? ⟨b, 1, none⟩ = some (.int .i64 v.n)
  c2 : w.cell? ⟨b, 2, none⟩ = some (.string v.s)
  c3 : w.cell? ⟨b, 3, none⟩ = some (.bool v.b)
  z0 : w.frozen? ⟨b, 0, none⟩ = false
  z1 : w.frozen? ⟨b, 1, none⟩ = false
  z2 : w.frozen? ⟨b, 2, none⟩ = false
  z3 : w.frozen? ⟨b, 3, none⟩ = false
theorem Four.new (w : World) (v : V4) : Four (w.alloc (.cells #[.int .i64 v.k, .int .i64 v.n, .string v.s, .bool v.b] 96)) w.heap.size v := by
  refine ⟨?_, ?_, ?_, ?_, ?_, ?_, ?_, ?_⟩ <;> simp [go_sem]
theorem Four.keeps {w w' : World} {R b : Nat} {v : V4} (h : Four w b v) (hg : w.grownBy w' (some R)) (hne : b ≠ R) : Four w' b v := by
  have hl := lt_of_cell h.c0
  exact ⟨cell_keeps hg h.c0 hne, cell_keeps hg h.c1 hne, cell_keeps hg h.c2 hne, cell_keeps hg h.c3 hne, (frozen_keeps hg hl hne 0).trans h.z0, (frozen_keeps hg hl hne 1).trans h.z1, (frozen_keeps hg hl hne 2).trans h.z2, (frozen_keeps hg hl hne 3).trans h.z3⟩
theorem Four.below {w w' : World} {b : Nat} {v : V4} (h : Four w b v) (hb : Below w.heap.size w w') : Four w' b v := by
  have hl := lt_of_cell h.c0
  exact ⟨(hb.cell (p := ⟨b, 0, none⟩) hl).trans h.c0, (hb.cell (p := ⟨b, 1, none⟩) hl).trans h.c1, (hb.cell (p := ⟨b, 2, none⟩) hl).trans h.c2, (hb.cell (p := ⟨b, 3, none⟩) hl).trans h.c3,
    (hb.frozen (p := ⟨b, 0, none⟩) hl).trans h.z0, (hb.frozen (p := ⟨b, 1, none⟩) hl).trans h.z1, (hb.frozen (p := ⟨b, 2, none⟩) hl).trans h.z2, (hb.frozen (p := ⟨b, 3, none⟩) hl).trans h.z3⟩
set_option maxRecDepth 100000 in
theorem value_r (R : Nat) (p : Option Addr) (c : Nat) (l : List UInt8) (a : Nat) (f : Int) (w : World) (h : Lies w R p c l a f) :
    Calls Tryd.prog 82 #[.pointer (some ⟨R, 0, none⟩)] w (Val w R (.slice p l.length c) l a f) := by
  have H := Lib.hid h
  have hR := h.rd.lt
  have HX : Hid (∀ wx a' f' (lo hi : Nat), Lies wx R p c l a' f' → Calls Tryd.prog 95 #[.pointer (some ⟨R, 0, none⟩), .int .u8 lo, .int .u8 hi] wx (OneIn wx R (.slice p l.length c) l a' f' lo hi)) := fun wx a' f' lo hi h0 => oneWithin_any R p c l a' f' lo hi wx h0
  have hA0 := (After.refl h.rd h.le).alloc (Obj.cells #[.int .i64 0, .int .i64 0, .string ⟨#[]⟩, .bool false] 96)
  clear h
  go_enter Tryd.func82, Tryd.ntmps82
  go_wp2_with fail
  have HA0 := Lib.hid hA0
  have HL0 := Lib.hid (H.out.after hA0)
  have F0 : Hid (Four (w.alloc (Obj.cells #[.int .i64 0, .int .i64 0, .string ⟨#[]⟩, .bool false] 96)) w.heap.size ⟨0, 0, ⟨#[]⟩, false⟩) := Four.new w ⟨0, 0, ⟨#[]⟩, false⟩
  have S0 : Hid (w.heap.size < (w.alloc (Obj.cells #[.int .i64 0, .int .i64 0, .string ⟨#[]⟩, .bool false] 96)).heap.size) := by show _ < _; simp
  obtain ⟨w0, hw0⟩ : ∃ x, x = w.alloc (Obj.cells #[.int .i64 0, .int .i64 0, .string ⟨#[]⟩, .bool false] 96) := ⟨_, rfl⟩
  rw [← hw0] at HA0 HL0 S0 F0 ⊢
  obtain ⟨g0, hg0⟩ : ∃ g0, g0 = w.heap.size := ⟨_, rfl⟩
  have HG0 := Lib.hid hg0
  rw [← hg0] at F0 S0 hR ⊢
  refine (HX.out w0 a f 1 3 HL0.out).mono ?_
  rintro e w1 ⟨x, a1, f1, rfl, haf1, hca1⟩
  have hg1 := haf1.g
  have HA1 := Lib.hid (HA0.out.trans haf1)
  have HC1 := Lib.hid hca1
  have HX8 : Hid ((x.toNat : Int) < 256) := by have := x.toNat_lt; show _ < _; omega
  have HN : Hid (f1 = 0 → 1 ≤ x.toNat ∧ x.toNat ≤ 3) := by
    intro h0
    rcases HC1.out with ⟨h1, h2⟩ | ⟨h1, h2⟩
    · exact absurd (h2.symm.trans h0) h1
    · cases hr : byteW 1 3 (l.drop a) with
      | bad E => rw [hr] at h2; exact absurd (h2.1.symm.trans h0) h2.2
      | ok v k =>
        rw [hr] at h2
        obtain ⟨_, _, rfl⟩ := h2
        exact ((byteW_form 1 3).back _ _ _ hr).1
  have F1 := Lib.hid (F0.out.keeps hg1 (by omega))
  have s1 := Nat.lt_of_lt_of_le S0.out hg1.size
  have S1 : Hid (g0 < w1.heap.size) := s1
  clear haf1 hca1 hg1 hw0 hA0 hg0 s1
  have hx8 := HX8.out
  -- the local value's block, laid anew
  have F2 : ∀ k : Int, Hid (Four (w1.alloc (Obj.cells #[.int .i64 k, .int .i64 0, .string ⟨#[]⟩, .bool false] 96)) w1.heap.size ⟨k, 0, ⟨#[]⟩, false⟩) := fun k => Four.new w1 ⟨k, 0, ⟨#[]⟩, false⟩
  have HF2 := Lib.hid F2
  clear F2
  obtain ⟨g1, hg1⟩ : ∃ g1, g1 = w1.heap.size := ⟨_, rfl⟩
  have HG1 := Lib.hid hg1
  have hsR : g1 ≠ R := by have := HA1.out.r.lt; omega
  have hs0 : g1 ≠ g0 := by have := S1.out; omega
  have hs0' : g0 ≠ g1 := Ne.symm hs0
  have hsR0 : g0 ≠ R := by omega
  have HA2 : Hid (After w (w1.alloc (Obj.cells #[.int .i64 (x.toNat : Int), .int .i64 0, .string ⟨#[]⟩, .bool false] 96)) R (.slice p l.length c) l.length a1 f1) := HA1.out.alloc _
  have F1' : Hid (Four (w1.alloc (Obj.cells #[.int .i64 (x.toNat : Int), .int .i64 0, .string ⟨#[]⟩, .bool false] 96)) g0 ⟨0, 0, ⟨#[]⟩, false⟩) := F1.out.below ((Below.refl _ _).alloc (Nat.le_refl _) _)
  have F2 : Hid (Four (w1.alloc (Obj.cells #[.int .i64 (x.toNat : Int), .int .i64 0, .string ⟨#[]⟩, .bool false] 96)) g1 ⟨x.toNat, 0, ⟨#[]⟩, false⟩) := by show Four _ _ _; rw [hg1]; exact (HF2.out x.toNat).out
  clear HF2
  go_upto_region 2 with fail
  obtain ⟨w2, hw2⟩ : ∃ w2, w2 = w1.alloc (Obj.cells #[.int .i64 (x.toNat : Int), .int .i64 0, .string ⟨#[]⟩, .bool false] 96) := ⟨_, rfl⟩
  rw [← hw2] at HA2 F1' F2 ⊢
  rw [← hg1]
  clear hw2 hg1
  obtain ⟨y0, y1, y2, y3, yz0, yz1, yz2, yz3⟩ := F2.out
  by_cases h1 : x.toNat = 1
  · have d1 : ((x.toNat : Int) == 1) = true := by simp; omega
    have H1 := Lib.hid h1
    clear h1
    go_wp2_with fail
    have hn := num_any R p c l a1 f1 w2 (H.out.after HA2.out).rd (H.out.after HA2.out).by_ (H.out.after HA2.out).le (H.out.after HA2.out).cp (H.out.after HA2.out).mx
    refine hn.mono ?_
    rintro e w3 ⟨n, a2, f2, rfl, hi64, haf3, hca3⟩
    have F1'' := Lib.hid (F1'.out.keeps haf3.g hsR0)
    have F2'' := Lib.hid (F2.out.keeps haf3.g hsR)
    have HA3 := Lib.hid (HA2.out.trans haf3)
    have HC3 := Lib.hid hca3
    clear y0 y1 y2 y3 yz0 yz1 yz2 yz3 hn haf3 hca3
    obtain ⟨y0, y1, y2, y3, yz0, yz1, yz2, yz3⟩ := F2''.out
    obtain ⟨x0, x1, x2, x3, xz0, xz1, xz2, xz3⟩ := F1''.out
    go_wp2
    refine bodyPost_ret (v := agg4 ⟨x.toNat, n, ⟨#[]⟩, false⟩) (by simp [results, Tryd.results82, go_sem, y0, y1, y2, y3, x0, x1, x2, x3]) rfl ?_
    have q0 : w.heap.size ≤ g0 := by have := HG0.out; omega
    have q1 : w.heap.size ≤ g1 := by have := HG1.out; have := S1.out; omega
    have q2 : R < w.heap.size := by have := HG0.out; omega
    refine ⟨⟨x.toNat, n, ⟨#[]⟩, false⟩, a2, f2, rfl, by repeat (first | exact HA3.out | refine After.set ?_ (by assumption) (by assumption) _ _), HC1.out.andThen (g := restR) ?_⟩
    unfold restR
    rw [if_pos H1.out]
    have := HC3.out.map (g := fun n => (⟨1, n, ⟨#[]⟩, false⟩ : V4))
    rw [H1.out]
    exact this
  · have d1 : ((x.toNat : Int) == 1) = false := by simp; omega
    have H1 := Lib.hid h1
    clear h1
    by_cases h2 : x.toNat = 2
    · have d2 : ((x.toNat : Int) == 2) = true := by simp; omega
      have H2 := Lib.hid h2
      clear h2
      go_wp2_with fail
      have hn := text_r R p c l a1 f1 0 256 (Int.le_refl 0) w2 (H.out.after HA2.out)
      refine hn.mono ?_
      rintro e w3 ⟨s, a2, f2, rfl, hsz, haf3, hca3⟩
      have F1'' := Lib.hid (F1'.out.keeps haf3.g hsR0)
      have F2'' := Lib.hid (F2.out.keeps haf3.g hsR)
      have HA3 := Lib.hid (HA2.out.trans haf3)
      have HC3 := Lib.hid hca3
      clear y0 y1 y2 y3 yz0 yz1 yz2 yz3 hn haf3 hca3
      obtain ⟨y0, y1, y2, y3, yz0, yz1, yz2, yz3⟩ := F2''.out
      obtain ⟨x0, x1, x2, x3, xz0, xz1, xz2, xz3⟩ := F1''.out
      go_wp2
      refine bodyPost_ret (v := agg4 ⟨x.toNat, 0, ⟨s.toArray⟩, false⟩) (by simp [results, Tryd.results82, go_sem, y0, y1, y2, y3, x0, x1, x2, x3]) rfl ?_
      have q0 : w.heap.size ≤ g0 := by have := HG0.out; omega
      have q1 : w.heap.size ≤ g1 := by have := HG1.out; have := S1.out; omega
      have q2 : R < w.heap.size := by have := HG0.out; omega
      refine ⟨⟨x.toNat, 0, ⟨s.toArray⟩, false⟩, a2, f2, rfl, by repeat (first | exact HA3.out | refine After.set ?_ (by assumption) (by assumption) _ _), HC1.out.andThen (g := restR) ?_⟩
      unfold restR
      rw [if_neg H1.out, if_pos H2.out]
      have := HC3.out.map (g := fun l => (⟨2, 0, ⟨l.toArray⟩, false⟩ : V4))
      rw [H2.out]
      exact this
    · have d2 : ((x.toNat : Int) == 2) = false := by simp; omega
      have H2 := Lib.hid h2
      clear h2
      by_cases h3 : x.toNat = 3
      · have d3 : ((x.toNat : Int) == 3) = true := by simp; omega
        have H3 := Lib.hid h3
        clear h3
        go_wp2_with fail
        have hn := HX.out w2 a1 f1 0 1 (H.out.after HA2.out)
        refine hn.mono ?_
        rintro e w3 ⟨y, a2, f2, rfl, haf3, hca3⟩
        have F1'' := Lib.hid (F1'.out.keeps haf3.g hsR0)
        have F2'' := Lib.hid (F2.out.keeps haf3.g hsR)
        have HA3 := Lib.hid (HA2.out.trans haf3)
        have HC3 := Lib.hid hca3
        clear y0 y1 y2 y3 yz0 yz1 yz2 yz3 hn haf3 hca3
        obtain ⟨y0, y1, y2, y3, yz0, yz1, yz2, yz3⟩ := F2''.out
        obtain ⟨x0, x1, x2, x3, xz0, xz1, xz2, xz3⟩ := F1''.out
        go_wp2
        refine bodyPost_ret (v := agg4 ⟨x.toNat, 0, ⟨#[]⟩, (y.toNat : Int) == 1⟩) (by simp [results, Tryd.results82, go_sem, y0, y1, y2, y3, x0, x1, x2, x3]) rfl ?_
        have q0 : w.heap.size ≤ g0 := by have := HG0.out; omega
        have q1 : w.heap.size ≤ g1 := by have := HG1.out; have := S1.out; omega
        have q2 : R < w.heap.size := by have := HG0.out; omega
        refine ⟨⟨x.toNat, 0, ⟨#[]⟩, (y.toNat : Int) == 1⟩, a2, f2, rfl, by repeat (first | exact HA3.out | refine After.set ?_ (by assumption) (by assumption) _ _), HC1.out.andThen (g := restR) ?_⟩
        unfold restR
        rw [if_neg H1.out, if_neg H2.out]
        have := HC3.out.map (g := fun x => (⟨3, 0, ⟨#[]⟩, x.toNat == 1⟩ : V4))
        rw [H3.out]
        have e : (((y.toNat : Int) == 1) : Bool) = (y.toNat == 1) := by
          rw [Bool.eq_iff_iff]
          simp
          omega
        rw [e]
        exact this
      · have d3 : ((x.toNat : Int) == 3) = false := by simp; omega
        have hf1 : f1 ≠ 0 := fun h => by
          have := HN.out h
          have := H1.out
          have := H2.out
          omega
        have HF := Lib.hid hf1
        clear hf1 h3
        obtain ⟨x0, x1, x2, x3, xz0, xz1, xz2, xz3⟩ := F1'.out
        go_wp2
        refine bodyPost_ret (v := agg4 ⟨x.toNat, 0, ⟨#[]⟩, false⟩) (by simp [results, Tryd.results82, go_sem, y0, y1, y2, y3, x0, x1, x2, x3]) rfl ?_
        have q0 : w.heap.size ≤ g0 := by have := HG0.out; omega
        have q1 : w.heap.size ≤ g1 := by have := HG1.out; have := S1.out; omega
        have q2 : R < w.heap.size := by have := HG0.out; omega
        exact ⟨⟨x.toNat, 0, ⟨#[]⟩, false⟩, a1, f1, rfl, by repeat (first | exact HA2.out | refine After.set ?_ (by assumption) (by assumption) _ _), HC1.out.andThen (g := restR) (.inl ⟨HF.out, rfl⟩)⟩
end Go.Proofs.YtlinpkmfjkcoiaaDoor
