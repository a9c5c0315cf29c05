/- What the reader's event is made of: the event's block, the loop's relation. -/
import Derived.Test.YtlinpkmfjkcoiaaDoorR6
namespace Go.Proofs.YtlinpkmfjkcoiaaDoor
open Go Go.RowKit
set_option maxHeartbeats 4000000
set_option linter.unusedVariables false
set_option linter.unusedSimpArgs false
/-- a block of an event's three cells that may be written -/
structure Three (w : World) (b : Nat) (s : ByteArray) (t : Int) (v : Value) : Prop where
  c0 : w.cell? ⟨b, 0, none⟩ = some (.string s)
  c1 : w.cell? ⟨b, 1, none⟩ = some (.int .i64 t)
  c2 : w.cell? ⟨b, 2, none⟩ = some v
  z0 : w.frozen? ⟨b, 0, none⟩ = false
  z1 : w.frozen? ⟨b, 1, none⟩ = false
  z2 : w.frozen? ⟨b, 2, none⟩ = false
theorem Three.new (w : World) (s : ByteArray) (t : Int) (p : Option Addr) (n c : Nat) : Three (w.alloc (.cells #[.string s, .int .i64 t, .slice p n c] 24)) w.heap.size s t (.slice p n c) := by
  refine ⟨?_, ?_, ?_, ?_, ?_, ?_⟩ <;> simp [go_sem]
theorem Three.keeps {w w' : World} {R b : Nat} {s : ByteArray} {t : Int} {v : Value} (h : Three w b s t v) (hg : w.grownBy w' (some R)) (hne : b ≠ R) : Three w' b s t v := by
  have hl := lt_of_cell h.c0
  exact ⟨cell_keeps hg h.c0 hne, cell_keeps hg h.c1 hne, cell_keeps hg h.c2 hne, (frozen_keeps hg hl hne 0).trans h.z0, (frozen_keeps hg hl hne 1).trans h.z1, (frozen_keeps hg hl hne 2).trans h.z2⟩
theorem Three.below {w w' : World} {b : Nat} {s : ByteArray} {t : Int} {v : Value} (h : Three w b s t v) (hb : Below w.heap.size w w') : Three w' b s t v := by
  have hl := lt_of_cell h.c0
  exact ⟨(hb.cell (p := ⟨b, 0, none⟩) hl).trans h.c0, (hb.cell (p := ⟨b, 1, none⟩) hl).trans h.c1, (hb.cell (p := ⟨b, 2, none⟩) hl).trans h.c2,
    (hb.frozen (p := ⟨b, 0, none⟩) hl).trans h.z0, (hb.frozen (p := ⟨b, 1, none⟩) hl).trans h.z1, (hb.frozen (p := ⟨b, 2, none⟩) hl).trans h.z2⟩
theorem Three.ty {w : World} {b : Nat} {s : ByteArray} {t : Int} {v : Value} (h : Three w b s t v) (s' : ByteArray) : Three (w.setCell ⟨b, 0, none⟩ (.string s')) b s' t v := by
  obtain ⟨c0, c1, c2, z0, z1, z2⟩ := h
  refine ⟨?_, ?_, ?_, ?_, ?_, ?_⟩ <;> simp [go_sem, c0, c1, c2, z0, z1, z2]
theorem Three.tm {w : World} {b : Nat} {s : ByteArray} {t : Int} {v : Value} (h : Three w b s t v) (t' : Int) : Three (w.setCell ⟨b, 1, none⟩ (.int .i64 t')) b s t' v := by
  obtain ⟨c0, c1, c2, z0, z1, z2⟩ := h
  refine ⟨?_, ?_, ?_, ?_, ?_, ?_⟩ <;> simp [go_sem, c0, c1, c2, z0, z1, z2]
theorem Three.vs {w : World} {b : Nat} {s : ByteArray} {t : Int} {v : Value} (h : Three w b s t v) (v' : Value) : Three (w.setCell ⟨b, 2, none⟩ v') b s t v' := by
  obtain ⟨c0, c1, c2, z0, z1, z2⟩ := h
  refine ⟨?_, ?_, ?_, ?_, ?_, ?_⟩ <;> simp [go_sem, c0, c1, c2, z0, z1, z2]
theorem Three.other {w : World} {b b' o : Nat} {s : ByteArray} {t : Int} {v u : Value} (h : Three w b s t v) (hne : b ≠ b') : Three (w.setCell ⟨b', o, none⟩ u) b s t v := by
  have e : (w.setCell ⟨b', o, none⟩ u).heap[b]? = w.heap[b]? := Below.heap_setCell _ _ _ _ (by simpa using hne)
  exact ⟨(World.cell?_of_block (a := ⟨b, 0, none⟩) e).trans h.c0, (World.cell?_of_block (a := ⟨b, 1, none⟩) e).trans h.c1, (World.cell?_of_block (a := ⟨b, 2, none⟩) e).trans h.c2, (World.frozen?_of_block (a := ⟨b, 0, none⟩) e).trans h.z0, (World.frozen?_of_block (a := ⟨b, 1, none⟩) e).trans h.z1, (World.frozen?_of_block (a := ⟨b, 2, none⟩) e).trans h.z2⟩
theorem Kw.keeps {w w' : World} {R : Nat} (h : Kw w) (hg : w.grownBy w' (some R)) (hne : 0 ≠ R) : Kw w' :=
  ⟨Nat.lt_of_lt_of_le h.lt hg.size, cell_keeps hg h.c0 hne, cell_keeps hg h.c1 hne, cell_keeps hg h.c2 hne, cell_keeps hg h.c3 hne⟩
theorem After.below {w w' w2 : World} {R : Nat} {sv : Value} {n a : Nat} {f : Int} (h : After w w' R sv n a f) (hb : Below w'.heap.size w' w2) : After w w2 R sv n a f :=
  ⟨Lib.grownBy_below h.g hb, h.r.below hb, h.le⟩
theorem After.drew {w w' : World} {R : Nat} {sv : Value} {n a : Nat} {f : Int} (h : After w w' R sv n a f) : After w w'.drew R sv n a f :=
  ⟨⟨h.g.os, h.g.tape, h.g.output, h.g.size, h.g.block⟩, ⟨h.r.c0, h.r.c1, h.r.c2, h.r.z1, h.r.z2⟩, h.le⟩
theorem After.grown {w w' w2 : World} {R : Nat} {sv : Value} {n a : Nat} {f : Int} (h : After w w' R sv n a f) {row : Option Nat} (hg : w'.grownBy w2 row) (hR : R < w.heap.size) (hr : ∀ k, row = some k → w.heap.size ≤ k) : After w w2 R sv n a f := by
  have hne : some R ≠ row := fun e => by have := hr R e.symm; omega
  have hl := h.r.lt
  refine ⟨⟨hg.os.trans h.g.os, hg.tape.trans h.g.tape, hg.output.trans h.g.output, Nat.le_trans h.g.size hg.size, fun i hi hi2 => ?_⟩, ?_, h.le⟩
  · have hi3 : some i ≠ row := fun e => by have := hr i e.symm; omega
    exact (hg.block i (Nat.lt_of_lt_of_le hi h.g.size) hi3).trans (h.g.block i hi hi2)
  · have e := hg.block R hl hne
    obtain ⟨c0, c1, c2, z1, z2⟩ := h.r
    exact ⟨(World.cell?_of_block (a := ⟨R, 0, none⟩) e).trans c0, (World.cell?_of_block (a := ⟨R, 1, none⟩) e).trans c1, (World.cell?_of_block (a := ⟨R, 2, none⟩) e).trans c2, (World.frozen?_of_block (a := ⟨R, 1, none⟩) e).trans z1, (World.frozen?_of_block (a := ⟨R, 2, none⟩) e).trans z2⟩
theorem infoVal : (Tryd.prog.info? 96).map (fun i => (i.zero, i.size, i.bytes)) = some (some (.agg #[.int .i64 0, .int .i64 0, .string ⟨#[]⟩, .bool false]), 4, 40) := by kernel_rfl
def cells4 (vl : List V4) : List Value := vl.flatMap fun v => [.int .i64 v.k, .int .i64 v.n, .string v.s, .bool v.b]
theorem cells4_snoc (vl : List V4) (v : V4) : cells4 (vl ++ [v]) = cells4 vl ++ [.int .i64 v.k, .int .i64 v.n, .string v.s, .bool v.b] := by simp [cells4]
theorem own_keeps {w w' : World} {B R : Nat} {v : Value} {n : Nat} {xs : List Value} (h : w.ownsRow B 96 4 v n xs) (hg : w.grownBy w' (some R)) (hR : R < B) : w'.ownsRow B 96 4 v n xs := by
  refine h.kept hg ?_
  rcases h.2 with ⟨rfl, _⟩ | ⟨g, cap, cur, rfl, hgB, _⟩
  · exact .inl rfl
  · refine .inr fun e => ?_
    simp only [Value.ownBlock, Option.some.injEq] at e
    omega
theorem own_set {w : World} {B b o : Nat} {v u : Value} {n : Nat} {xs : List Value} (h : w.ownsRow B 96 4 v n xs) (hb : b < B) : (w.setCell ⟨b, o, none⟩ u).ownsRow B 96 4 v n xs := own_keeps h (Lib.grownBy_setCell w b o u) hb
/-- the loop over the values: from f0 on n of them, those are done -/
inductive ValsSt (l : List UInt8) (a0 : Nat) (f0 : Int) (n0 : Int) (done : List V4) (n : Int) (a' : Nat) (f' : Int) : Prop
  | on (h0 : f0 = 0) (h1 : f' = 0) (h2 : 0 ≤ n) (h5 : a0 ≤ a') (h3 : (done.length : Int) + n = n0) (h4 : ∀ r, valsR n.toNat (l.drop a') = r → valsR n0.toNat (l.drop a0) = match r with | .bad E => .bad E | .ok vs k => .ok (done ++ vs) (a' - a0 + k))
  | off (h1 : f' ≠ 0) (h2 : (f0 ≠ 0 ∧ f' = f0) ∨ (f0 = 0 ∧ valsR n0.toNat (l.drop a0) = .bad f'))
theorem ValsSt.start (l : List UInt8) (a : Nat) (f n : Int) (hn : f = 0 → 0 ≤ n) : ValsSt l a f n [] n a f := by
  by_cases hf : f = 0
  · subst hf
    refine .on rfl rfl (hn rfl) (Nat.le_refl _) (by simp) fun r hr => ?_
    rw [hr]
    cases r <;> simp
  · exact .off hf (.inl ⟨hf, rfl⟩)
theorem ValsSt.step {l : List UInt8} {a0 : Nat} {f0 n0 : Int} {done : List V4} {n : Int} {a' a2 : Nat} {f' f2 : Int} {v : V4} (h : ValsSt l a0 f0 n0 done n a' f') (hn : 0 < n) (hf : f' = 0) (hv : Came a' a2 f' f2 (valR (l.drop a')) (· = v)) : ValsSt l a0 f0 n0 (done ++ [v]) (n - 1) a2 f2 := by
  cases h with
  | on h0 h1 h2 h5 h3 h4 =>
    obtain ⟨m, rfl⟩ : ∃ m : Nat, n = (m : Int) + 1 := ⟨(n - 1).toNat, by omega⟩
    have e : ((m : Int) + 1).toNat = m + 1 := by omega
    have e2 : ((m : Int) + 1 - 1) = m := by omega
    rw [e] at h4
    rw [e2]
    rcases hv with ⟨hv, _⟩ | ⟨_, hv⟩
    · exact absurd hf hv
    · cases hr : valR (l.drop a') with
      | bad E =>
        rw [hr] at hv
        obtain ⟨rfl, hE⟩ := hv
        refine .off hE (.inr ⟨h0, ?_⟩)
        rw [h4 (.bad f2) (by simp only [valsR, Rd.andThen]; rw [hr])]
      | ok u k =>
        rw [hr] at hv
        obtain ⟨h6, h7, rfl⟩ := hv
        refine .on h0 h6 (by omega) (by omega) (by simp; omega) fun r hr2 => ?_
        have e3 : valsR (m + 1) (l.drop a') = match valsR m (l.drop a2) with | .bad E => .bad E | .ok vs j => .ok (u :: vs) (k + j) := by
          simp only [valsR, Rd.andThen]
          rw [hr]
          simp only [Rd.map]
          rw [List.drop_drop, ← h7]
          cases valsR m (l.drop a2) <;> rfl
        rw [Int.toNat_natCast] at hr2
        rw [h4 _ e3, hr2]
        cases r with
        | bad E => rfl
        | ok vs j => simp; omega
  | off h1 h2 => exact absurd hf h1
theorem ValsSt.done {l : List UInt8} {a0 : Nat} {f0 n0 : Int} {done : List V4} {n : Int} {a' : Nat} {f' : Int} (h : ValsSt l a0 f0 n0 done n a' f') (hn : n ≤ 0 ∨ f' ≠ 0) : Came a0 a' f0 f' (valsR n0.toNat (l.drop a0)) (· = done) := by
  cases h with
  | on h0 h1 h2 h5 h3 h4 =>
    refine .inr ⟨h0, ?_⟩
    have hn0 : n = 0 := by omega
    subst hn0
    rw [h4 (.ok [] 0) rfl]
    exact ⟨h1, by omega, by simp⟩
  | off h1 h2 =>
    rcases h2 with h2 | ⟨h2, h3⟩
    · exact .inl h2
    · refine .inr ⟨h2, ?_⟩
      rw [h3]
      exact ⟨rfl, h1⟩
theorem ValsSt.few {l : List UInt8} {a0 : Nat} {f0 n0 : Int} {done : List V4} {n : Int} {a' : Nat} {f' : Int} (h : ValsSt l a0 f0 n0 done n a' f') (hf : f' = 0) : (done.length : Int) + n = n0 := by
  cases h with
  | on h0 h1 h2 h5 h3 h4 => exact h3
  | off h1 h2 => exact absurd hf h1
end Go.Proofs.YtlinpkmfjkcoiaaDoor
