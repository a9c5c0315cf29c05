/- What the reader's events is made of: the loop's relation, a row of events of one's own. The walk of the reader's events. -/
import Derived.Test.YtlinpkmfjkcoiaaDoorP1
import Derived.Test.YtlinpkmfjkcoiaaDoorR8
import Derived.LoopTactic
import Derived.Deep.AppendLies
namespace Go.Proofs.YtlinpkmfjkcoiaaDoor
open Go Go.RowKit
set_option maxHeartbeats 4000000
set_option linter.unusedVariables false
set_option linter.unusedSimpArgs false
/-- the loop over the events: from f0 on n of them, those are done -/
inductive EvsSt (l : List UInt8) (a0 : Nat) (f0 : Int) (n0 : Int) (done : List Evt) (n : Int) (a' : Nat) (f' : Int) : Prop
  | on (h0 : f0 = 0) (h1 : f' = 0) (h2 : 0 ≤ n) (h5 : a0 ≤ a') (h3 : (done.length : Int) + n = n0) (h4 : ∀ r, evsR n.toNat (l.drop a') = r → evsR n0.toNat (l.drop a0) = match r with | .bad E => .bad E | .ok vs k => .ok (done ++ vs) (a' - a0 + k))
  | off (h1 : f' ≠ 0) (h2 : (f0 ≠ 0 ∧ f' = f0) ∨ (f0 = 0 ∧ evsR n0.toNat (l.drop a0) = .bad f'))
theorem EvsSt.start (l : List UInt8) (a : Nat) (f n : Int) (hn : f = 0 → 0 ≤ n) : EvsSt l a f n [] n a f := by
  by_cases hf : f = 0
  · subst hf
    refine .on rfl rfl (hn rfl) (Nat.le_refl _) (by simp) fun r hr => ?_
    rw [hr]
    cases r <;> simp
  · exact .off hf (.inl ⟨hf, rfl⟩)
theorem EvsSt.step {l : List UInt8} {a0 : Nat} {f0 n0 : Int} {done : List Evt} {n : Int} {a' a2 : Nat} {f' f2 : Int} {v : Evt} (h : EvsSt l a0 f0 n0 done n a' f') (hn : 0 < n) (hf : f' = 0) (hv : Came a' a2 f' f2 (evtR (l.drop a')) (· = v)) : EvsSt l a0 f0 n0 (done ++ [v]) (n - 1) a2 f2 := by
  cases h with
  | on h0 h1 h2 h5 h3 h4 =>
    obtain ⟨m, rfl⟩ : ∃ m : Nat, n = (m : Int) + 1 := ⟨(n - 1).toNat, by omega⟩
    have e : ((m : Int) + 1).toNat = m + 1 := by omega
    have e2 : ((m : Int) + 1 - 1) = m := by omega
    rw [e] at h4
    rw [e2]
    rcases hv with ⟨hv, _⟩ | ⟨_, hv⟩
    · exact absurd hf hv
    · cases hr : evtR (l.drop a') with
      | bad E =>
        rw [hr] at hv
        obtain ⟨rfl, hE⟩ := hv
        refine .off hE (.inr ⟨h0, ?_⟩)
        rw [h4 (.bad f2) (by simp only [evsR, Rd.andThen]; rw [hr])]
      | ok u k =>
        rw [hr] at hv
        obtain ⟨h6, h7, rfl⟩ := hv
        refine .on h0 h6 (by omega) (by omega) (by simp; omega) fun r hr2 => ?_
        have e3 : evsR (m + 1) (l.drop a') = match evsR m (l.drop a2) with | .bad E => .bad E | .ok vs j => .ok (u :: vs) (k + j) := by
          simp only [evsR, Rd.andThen]
          rw [hr]
          simp only [Rd.map]
          rw [List.drop_drop, ← h7]
          cases evsR m (l.drop a2) <;> rfl
        rw [Int.toNat_natCast] at hr2
        rw [h4 _ e3, hr2]
        cases r with
        | bad E => rfl
        | ok vs j => simp; omega
  | off h1 h2 => exact absurd hf h1
theorem EvsSt.done {l : List UInt8} {a0 : Nat} {f0 n0 : Int} {done : List Evt} {n : Int} {a' : Nat} {f' : Int} (h : EvsSt l a0 f0 n0 done n a' f') (hn : n ≤ 0 ∨ f' ≠ 0) : Came a0 a' f0 f' (evsR n0.toNat (l.drop a0)) (· = done) := by
  cases h with
  | on h0 h1 h2 h5 h3 h4 =>
    refine .inr ⟨h0, ?_⟩
    have hn0 : n = 0 := by omega
    subst hn0
    rw [h4 (.ok [] 0) rfl]
    exact ⟨h1, by omega, by simp⟩
  | off h1 h2 =>
    rcases h2 with h2 | ⟨h2, h3⟩
    · exact .inl h2
    · refine .inr ⟨h2, ?_⟩
      rw [h3]
      exact ⟨rfl, h1⟩
theorem EvsSt.few {l : List UInt8} {a0 : Nat} {f0 n0 : Int} {done : List Evt} {n : Int} {a' : Nat} {f' : Int} (h : EvsSt l a0 f0 n0 done n a' f') (hf : f' = 0) : (done.length : Int) + n = n0 := by
  cases h with
  | on h0 h1 h2 h5 h3 h4 => exact h3
  | off h1 h2 => exact absurd hf h1

/-- the cells of events, each with where its values lie -/
def cells3 (rows : List (Evt × Value)) : List Value := rows.flatMap fun x => [.string x.1.ty, .int .i64 x.1.tm, x.2]
theorem cells3_snoc (rows : List (Evt × Value)) (x : Evt × Value) : cells3 (rows ++ [x]) = cells3 rows ++ [.string x.1.ty, .int .i64 x.1.tm, x.2] := by simp [cells3]
/-- a row of events of one's own, each with values of one's own -/
structure EvsOwn (w : World) (B : Nat) (v : Value) (rows : List (Evt × Value)) : Prop where
  own : w.ownsRow B 24 3 v rows.length (cells3 rows)
  each : ∀ x ∈ rows, w.ownsRow B 96 4 x.2 x.1.vals.length (cells4 x.1.vals)
theorem own3_keeps {w w' : World} {B R : Nat} {v : Value} {n : Nat} {xs : List Value} (h : w.ownsRow B 24 3 v n xs) (hg : w.grownBy w' (some R)) (hR : R < B) : w'.ownsRow B 24 3 v n xs := by
  refine h.kept hg ?_
  rcases h.2 with ⟨rfl, _⟩ | ⟨g, cap, cur, rfl, hgB, _⟩
  · exact .inl rfl
  · refine .inr fun e => ?_
    simp only [Value.ownBlock, Option.some.injEq] at e
    omega
theorem EvsOwn.keeps {w w' : World} {B R : Nat} {v : Value} {rows : List (Evt × Value)} (h : EvsOwn w B v rows) (hg : w.grownBy w' (some R)) (hR : R < B) : EvsOwn w' B v rows :=
  ⟨own3_keeps h.own hg hR, fun x hx => own_keeps (h.each x hx) hg hR⟩
/-- rows of values and rows of events lie in other blocks -/
theorem own_apart {w : World} {B B' : Nat} {v u : Value} {n m : Nat} {xs ys : List Value} (h : w.ownsRow B 96 4 v n xs) (k : w.ownsRow B' 24 3 u m ys) : v = .slice none 0 0 ∨ v.ownBlock ≠ u.ownBlock := by
  rcases h.2 with ⟨rfl, _⟩ | ⟨g, cap, cur, rfl, _, hb, _⟩
  · exact .inl rfl
  · refine .inr fun e => ?_
    rcases k.2 with ⟨rfl, _⟩ | ⟨g', cap', cur', rfl, _, hb', _⟩
    · cases e
    · simp only [Value.ownBlock, Option.some.injEq] at e
      subst e
      rw [hb] at hb'
      simp only [Option.some.injEq, Obj.cells.injEq] at hb'
      exact absurd hb'.2.1 (by decide)
theorem infoEvt : (Tryd.prog.info? 24).map (fun i => (i.zero, i.size, i.bytes)) = some (some (.agg #[.string ⟨#[]⟩, .int .i64 0, .slice none 0 0]), 3, 48) := by kernel_rfl
end Go.Proofs.YtlinpkmfjkcoiaaDoor
namespace Go.Proofs.YtlinpkmfjkcoiaaDoor
open Go Go.RowKit
set_option maxHeartbeats 8000000
set_option linter.unusedVariables false
set_option linter.unusedSimpArgs false
def EvsRet (w : World) (R : Nat) (sv : Value) (l : List UInt8) (a : Nat) (f : Int) (e : Ending) (w' : World) : Prop :=
  ∃ (rows : List (Evt × Value)) (p : Option Addr) (c : Nat) (a' : Nat) (f' : Int), e = .returned (.slice p rows.length c) ∧ EvsOwn w' w.heap.size (.slice p rows.length c) rows ∧ After w w' R sv l.length a' f' ∧ Came a a' f f' (bodyR (l.drop a)) (· = rows.map (·.1))
theorem ones3 (s : ByteArray) (t : Int) (p : Option Addr) (n c : Nat) : ∀ u ∈ [Value.string s, .int .i64 t, .slice p n c], u.oneCell' = true := by
  intro u hu
  simp only [List.mem_cons, List.not_mem_nil, or_false] at hu
  rcases hu with rfl | rfl | rfl <;> rfl
theorem EvsOwn.app {w8 w9 : World} {o : Obj} {B g m cap : Nat} {v : Value} {rows : List (Evt × Value)} {x : Evt × Value} (h : EvsOwn w8 B v rows) (hx : w8.ownsRow B 96 4 x.2 x.1.vals.length (cells4 x.1.vals)) (hm : m = rows.length + 1)
    (hown : w9.ownsRow B 24 3 (.slice (some ⟨g, 0, none⟩) m cap) m (cells3 rows ++ [.string x.1.ty, .int .i64 x.1.tm, x.2])) (hg : (w8.alloc o).grownBy w9 v.ownBlock) : EvsOwn w9 B (.slice (some ⟨g, 0, none⟩) (rows ++ [x]).length cap) (rows ++ [x]) := by
  have e : (rows ++ [x]).length = m := by simp [hm]
  refine ⟨by rw [e, cells3_snoc]; exact hown, fun y hy => ?_⟩
  have hy8 : w8.ownsRow B 96 4 y.2 y.1.vals.length (cells4 y.1.vals) := by
    rcases List.mem_append.1 hy with hy | hy
    · exact h.each y hy
    · rw [List.mem_singleton] at hy
      subst hy
      exact hx
  refine (hy8.alloc o).kept hg ?_
  rcases own_apart hy8 h.own with e | e
  · exact .inl (by rw [e]; rfl)
  · exact .inr e
set_option maxRecDepth 100000 in
theorem events_r (R : Nat) (p : Option Addr) (c : Nat) (l : List UInt8) (a : Nat) (f : Int) (w : World) (h : Lies w R p c l a f) (hK : Kw w) (h0R : 0 ≠ R) :
    Calls Tryd.prog 52 #[.pointer (some ⟨R, 0, none⟩)] w (EvsRet w R (.slice p l.length c) l a f) := by
  have H := Lib.hid h
  have HK := Lib.hid hK
  have HRL := Lib.hid h.rd.lt
  obtain ⟨i0, hi, hz0, hz1, hz2⟩ := info_parts infoEvt
  have hn := numberWithin_any R p c l a f 0 1024 w h
  have HV : Hid (∀ wx a' f', After w wx R (.slice p l.length c) l.length a' f' → Calls Tryd.prog 49 #[.pointer (some ⟨R, 0, none⟩)] wx (EvRet wx R (.slice p l.length c) l a' f')) := fun wx a' f' h1 => event_r R p c l a' f' wx (H.out.after h1) (HK.out.keeps h1.g h0R) h0R
  clear h hK
  go_enter Tryd.func52, Tryd.ntmps52
  go_wp2_with fail
  refine hn.mono ?_
  rintro e w1 ⟨n0, a4, f4, rfl, hi64, haf, hca⟩
  have HA1 := Lib.hid haf
  have HC := Lib.hid hca
  have HI := Lib.hid hi64
  have HN0 : Hid (f4 = 0 → 0 ≤ n0 ∧ n0 ≤ 1024) := by
    intro h0
    rcases HC.out with ⟨h1, h2⟩ | ⟨h1, h2⟩
    · exact absurd (h2.symm.trans h0) h1
    · cases hr : numW 0 1024 (l.drop a) with
      | bad E => rw [hr] at h2; exact absurd (h2.1.symm.trans h0) h2.2
      | ok v k =>
        rw [hr] at h2
        obtain ⟨_, _, rfl⟩ := h2
        exact ((numW_form 0 1024 (by omega) (by omega)).back _ _ _ hr).1
  clear hn haf hca hi64
  go_wp2
  go_loopw [3, 4] (fun ov nv wr => ∃ (n : Int) (rows : List (Evt × Value)) (q : Option Addr) (m d a' : Nat) (f' : Int), ov = .slice q m d ∧ nv = .int .i64 n ∧ m = rows.length ∧ I64 n ∧ After w wr R (.slice p l.length c) l.length a' f' ∧ EvsOwn wr w.heap.size (.slice q m d) rows ∧ EvsSt l a4 f4 n0 (rows.map (·.1)) n a' f') (fun _ nv _ => (intOf nv).toNat)
  case atStart => exact ⟨n0, [], none, 0, 0, a4, f4, rfl, rfl, rfl, HI.out, HA1.out, ⟨World.ownsRow_nil _ _ _ _, by simp⟩, EvsSt.start l a4 f4 n0 (fun h => (HN0.out h).1)⟩
  case round =>
    obtain ⟨n, rows, q, m, d, a', f', rfl, rfl, hml, hn64, haf, hown, hst⟩ := hrel
    obtain ⟨hn1, hn2⟩ := hn64
    have AF := Lib.hid haf
    have OWN := Lib.hid hown
    have ST := Lib.hid hst
    have ML := Lib.hid hml
    have b0 := haf.r.c2
    clear haf hown hst hml
    by_cases hn : 0 < n
    · have dn : decide (0 < n) = true := by simpa using hn
      by_cases hf : f' = 0
      · have df : (f' == 0) = true := by simpa using hf
        have HF := Lib.hid hf
        clear hf
        have h1024 : m + 1 ≤ 1024 := by
          have h1 := ST.out.few HF.out
          have h2 : f4 = 0 := by
            cases ST.out with
            | on h0 => exact h0
            | off h1 => exact absurd HF.out h1
          have h3 := HN0.out h2
          have h4 := ML.out
          rw [List.length_map] at h1
          omega
        have hm1 : m + 1 ≤ maxLen := by unfold maxLen; omega
        have hm2 : (m + 1) * 48 ≤ 140737488355328 := by omega
        go_wp2_with fail
        refine (HV.out wr a' f' AF.out).mono ?_
        rintro e w8 ⟨ty, tm, vl, v, a8, f8, rfl, hown8, haf8, hca8⟩
        obtain ⟨vp, vc, rfl⟩ := own_form hown8
        have AF8 := Lib.hid (AF.out.trans haf8)
        have HCA8 := Lib.hid hca8
        have OWN8 := Lib.hid (OWN.out.keeps haf8.g HRL.out)
        have VO8 := Lib.hid (own_base hown8 AF.out.g.size)
        have hB8 : w.heap.size ≤ w8.heap.size := AF8.out.g.size
        have OR8 : Hid (w8.ownsRow w.heap.size 24 3 (.slice q m d) m (cells3 rows)) := by have := OWN8.out.own; rw [← show m = _ from ML.out] at this; exact this
        have HB8 : Hid (∀ o : Obj, w.heap.size ≤ (w8.alloc o).heap.size) := fun o => (by simp; omega)
        clear haf8 hca8 hown8 b0
        go_wp2_with (at_builtin; refine wpList_append_lies _ rfl _ _ 38 rfl w.heap.size 24 i0 (.agg #[.string ⟨#[]⟩, .int .i64 0, .slice none 0 0]) 3 48 Tryd.underlying38 hi hz0 hz1 hz2 rfl (by decide) _ _ _ rfl (World.ownsRow.alloc OR8.out _) ⟨w8.heap.size, 0, none⟩ 1 1 [.string ty, .int .i64 tm, .slice vp vl.length vc] rfl rfl (fun j u h => lit_cells w8 _ _ j u h) (ones3 ty tm vp vl.length vc) (by decide) hm1 hm2 (HB8.out _) (w8.heap.size + 1) (by simp) ?_)
        intro g9 cap9 w9 hown9 hgrow9 hwh9 hlt9
        have OWN9 := Lib.hid (EvsOwn.app (x := (⟨ty, tm, vl⟩, .slice vp vl.length vc)) OWN8.out VO8.out (by rw [ML.out]) hown9 hgrow9)
        have AF9 := Lib.hid ((AF8.out.alloc _).grown hgrow9 HRL.out (fun k hk => (World.ownsRow.lt OR8.out k hk).1))
        have ST9 := Lib.hid (ST.out.step hn HF.out HCA8.out)
        have HL9 : Hid ((rows ++ [((⟨ty, tm, vl⟩ : Evt), Value.slice vp vl.length vc)]).length = m + 1) := by show _ = _; rw [ML.out]; simp
        clear hown9 hgrow9 hwh9 hlt9
        go_wp2
        go_roundw
        case rel =>
          refine ⟨n - 1, rows ++ [(⟨ty, tm, vl⟩, .slice vp vl.length vc)], some ⟨g9, 0, none⟩, m + 1, cap9, a8, f8, rfl, by first | rfl | go_num, HL9.out.symm, by unfold I64; omega, AF9.out, ?_, ?_⟩
          · have := OWN9.out; rw [HL9.out] at this; exact this
          · rw [List.map_append]; exact ST9.out
        case measure => simp [intOf]; omega
      · have df : (f' == 0) = false := by simpa using hf
        have HF := Lib.hid hf
        clear hf
        go_wp2
        go_ret
        exact ⟨rows, q, d, a', f', by rw [← ML.out]; rfl, by rw [← ML.out]; exact OWN.out, AF.out, HC.out.andThen (g := fun n : Int => evsR n.toNat) (ST.out.done (.inr HF.out))⟩
    · have dn : decide (0 < n) = false := by simpa using hn
      go_wp2
      go_ret
      exact ⟨rows, q, d, a', f', by rw [← ML.out]; rfl, by rw [← ML.out]; exact OWN.out, AF.out, HC.out.andThen (g := fun n : Int => evsR n.toNat) (ST.out.done (.inl (by omega)))⟩
end Go.Proofs.YtlinpkmfjkcoiaaDoor
