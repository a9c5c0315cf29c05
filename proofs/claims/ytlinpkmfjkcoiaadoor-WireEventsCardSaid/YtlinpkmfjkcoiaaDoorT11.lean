/- The laws' own wide: the walk. -/
import Derived.Test.YtlinpkmfjkcoiaaDoorT10
namespace Go.Proofs.YtlinpkmfjkcoiaaDoor
open Go Go.RowKit
set_option maxHeartbeats 2000000
set_option linter.unusedVariables false
set_option linter.unusedSimpArgs false
attribute [local go_sem ↓] run_front22
set_option maxRecDepth 100000 in
theorem wide_any (ty : ByteArray) (tm : Int) (vl : List V4) (p : Option Addr) (c : Nat) (w : World) (hr : ValRow w p vl) (hm : vl.length * 40 ≤ 140737488351232) :
    Calls Tryd.prog 26 #[.agg #[.string ty, .int .i64 tm, .slice p vl.length c]] w fun e w' => ∃ G, e = .returned (.tuple #[.agg #[.string ty, .int .i64 tm, .slice (some ⟨G, 0, none⟩) vl.length (vl.length + 34)], .slice (some ⟨G, 0, none⟩) (vl.length + 34) (vl.length + 34)]) ∧ ValRow w' (some ⟨G, 0, none⟩) (wideL vl) ∧ Below w.heap.size w w' := by
  obtain ⟨i0, hi, hz0, hz1, hz2⟩ := info_parts infoVal
  obtain ⟨n, hn⟩ : ∃ n, n = vl.length := ⟨_, rfl⟩
  rw [← hn] at hm ⊢
  have HN := Lib.hid hn
  obtain ⟨w0, hw0⟩ : ∃ x, x = (w.alloc (.cells #[.string ty, .int .i64 tm, .slice p n c] 24)).alloc (.cells #[.string ⟨#[]⟩, .int .i64 0, .slice none 0 0] 24) := ⟨_, rfl⟩
  have hb0 : Below w.heap.size w w0 := by rw [hw0]; exact ((Below.refl _ _).alloc (Nat.le_refl _) _).alloc (by simp) _
  have T0 : Three w0 w.heap.size ty tm (.slice p n c) := by rw [hw0]; exact (Three.new w ty tm p n c).below ((Below.refl _ _).alloc (Nat.le_refl _) _)
  have T1 : Three w0 (w.heap.size + 1) ⟨#[]⟩ 0 (.slice none 0 0) := by
    have := Three.new (w.alloc (.cells #[.string ty, .int .i64 tm, .slice p n c] 24)) ⟨#[]⟩ 0 none 0 0
    simp at this
    rw [hw0]
    exact this
  have hs0 : w0.heap.size = w.heap.size + 2 := by rw [hw0]; simp
  obtain ⟨w1, hmk, hown, hgr⟩ := run_make_full (P := Tryd.prog) w0 w0.heap.size 22 96 i0 (.agg #[.int .i64 0, .int .i64 0, .string ⟨#[]⟩, .bool false]) 4 Tryd.underlying22 hi hz0 hz1 .i64 .i64 (n + 34) (by rw [hz2]; omega) (by unfold maxLen; omega) (Nat.le_refl _)
  obtain ⟨E, hE⟩ : ∃ E, E = w.heap.size := ⟨_, rfl⟩
  obtain ⟨R, hR⟩ : ∃ R, R = E + 1 := ⟨_, rfl⟩
  obtain ⟨G, hG⟩ : ∃ G, G = w0.heap.size := ⟨_, rfl⟩
  rw [← hE] at T0 T1
  rw [← hR] at T1
  rw [← hG] at hmk hown
  have hmk' : (Instr.makeSlice 22 (.int .i64 ((n : Int) + 34)) (.int .i64 ((n : Int) + 34))).run Tryd.prog w0 = .ok (.slice (some ⟨G, 0, none⟩) (n + 34) (n + 34)) w1 := by
    have e : ((n : Int) + 34) = ((n + 34 : Nat) : Int) := by omega
    rw [e]
    exact hmk
  have hb1 : Below G w0 w1 := ⟨hgr.os, hgr.tape, hgr.output, hgr.size, fun k hk => hgr.block k (by omega) (by simp)⟩
  have hgl : G < w1.heap.size := by have := (World.ownsRow.lt hown G rfl).2; exact this
  have hf : Filled4 w0 w1 G (n + 34) (wideL vl) 0 _ := ⟨hown, by have := hown.1; simpa using this, hb1, hgl, fun j hj => absurd hj (by omega)⟩
  have HF := Lib.hid hf
  have HG := Lib.hid hG
  have HW := Lib.hid hw0
  have HB0 := Lib.hid hb0
  have T0' := Lib.hid T0
  have T1' := Lib.hid T1
  have HV := Lib.hid (hr.below hb0)
  have HE := Lib.hid hE
  have HR := Lib.hid hR
  have rE : E ≠ G := by omega
  have rR : R ≠ G := by omega
  have rER : E ≠ R := by omega
  have HEG : Hid (E < G) := by show _ < _; omega
  have HRG : Hid (R < G) := by show _ < _; omega
  have HKT : Hid (∀ wx, Below G w0 wx → Three wx E ty tm (.slice p n c) ∧ Three wx R ⟨#[]⟩ 0 (.slice none 0 0)) := fun wx hx => by rw [hG] at hx; exact ⟨T0.below hx, T1.below hx⟩
  have HVX : Hid (∀ wx, Below G w0 wx → ValRow wx p vl) := fun wx hx => by rw [hG] at hx; exact HV.out.below hx
  obtain ⟨c0, c1, c2, z0, z1, z2⟩ := T0
  clear hmk hown hgr hn hf hw0 hb0 hr hs0 hb1 hgl hR T1
  go_enter Tryd.func26, Tryd.ntmps26
  go_upto_region 1 with fail
  rw [← HW.out, ← hE]
  first | rw [← show R = _ from HR.out] | skip
  clear hE hG
  have hn64 : (n : Int) ≤ 9000000000000000000 := by omega
  go_wp2
  go_loopw [6] (fun i wr => ∃ (k : Nat) (xs : List Value), k ≤ n + 34 ∧ i = .int .i64 k ∧ Filled4 w0 wr G (n + 34) (wideL vl) k xs) (fun i _ => n + 34 - (intOf i).toNat)
  case atStart => exact ⟨0, _, Nat.zero_le _, rfl, HF.out⟩
  case round =>
    obtain ⟨k, xs, hk, rfl, hfl⟩ := hrel
    have FL := Lib.hid hfl
    clear hmk' c0 c1 c2 z0 z1 z2 hfl
    by_cases hlt : k < n + 34
    · go_wp2_with fail
      refine (mark_any _ (by omega) (by omega) _).mono ?_
      rintro e w2 ⟨rfl, hb2⟩
      have FL2 := Lib.hid (FL.out.below hb2)
      clear hb2
      obtain ⟨u0, u1, u2, u3, a0, a1, a2, a3, b0, b1, b2, b3⟩ := FL2.out.at hlt
      by_cases hkn : k < n
      · have FL3 := Lib.hid (FL2.out.set4 ⟨1, 77 + ((k : Int) - (n : Int)), ⟨#[]⟩, false⟩)
        go_upto_region 7 with fail
        obtain ⟨w3, hw3⟩ : ∃ x, x = setW w2 G k ⟨1, 77 + ((k : Int) - (n : Int)), ⟨#[]⟩, false⟩ := ⟨_, rfl⟩
        rw [← hw3] at FL3
        refine (show Code.wp Tryd.prog _ _ _ (setW w2 G k ⟨1, 77 + ((k : Int) - (n : Int)), ⟨#[]⟩, false⟩) from ?_)
        rw [← hw3]
        clear hw3 a0 a1 a2 a3 b0 b1 b2 b3
        have hkl : k < vl.length := by rw [← HN.out]; exact hkn
        have HKL := Lib.hid hkl
        obtain ⟨u, b, o, hu, rfl, d0, d1, d2, d3⟩ := (HVX.out w3 FL3.out.blw).nth hkl
        have HU := Lib.hid hu
        obtain ⟨c0, c1, c2, z0, z1, z2⟩ := (HKT.out w3 FL3.out.blw).1
        obtain ⟨v0, v1, v2, v3, a0, a1, a2, a3, b0, b1, b2, b3⟩ := FL3.out.at hlt
        have FL4 := Lib.hid (FL3.out.put hlt (show (wideL vl)[k]? = some u by rw [wide_front HKL.out, hu]))
        obtain ⟨uk, un, us, ub⟩ := u
        clear hu
        go_wp2
        go_roundw
        case rel => exact ⟨k + 1, _, by omega, by go_num, FL4.out⟩
        case measure => simp [intOf]; omega
      · have HU : Hid ((wideL vl)[k]? = some ⟨1, 77 + ((k : Int) - (n : Int)), ⟨#[]⟩, false⟩) := by show _ = _; rw [HN.out]; exact wide_back (by rw [← HN.out]; omega) (by rw [← HN.out]; omega)
        have FL3 := Lib.hid (FL2.out.put hlt HU.out)
        go_wp2
        go_roundw
        case rel => exact ⟨k + 1, _, by omega, by go_num, FL3.out⟩
        case measure => simp [intOf]; omega
    · have hkk : k = n + 34 := by omega
      subst hkk
      have hall := FL.out.all (by rw [wide_len, HN.out])
      rw [wide_len, ← show n = _ from HN.out] at hall
      have HALL := Lib.hid hall
      obtain ⟨t0, t1⟩ := HKT.out wr FL.out.blw
      obtain ⟨c0, c1, c2, z0, z1, z2⟩ := t0
      obtain ⟨x0, x1, x2, y0, y1, y2⟩ := t1
      have hnn : n ≤ n + 34 := by omega
      clear hall
      have hEw : E < wr.heap.size := by have := HEG.out; have := FL.out.gl; omega
      have hRw : R < wr.heap.size := by have := HRG.out; have := FL.out.gl; omega
      go_wp2
      refine bodyPost_ret (v := .tuple #[.agg #[.string ty, .int .i64 tm, .slice (some ⟨G, 0, none⟩) n (n + 34)], .slice (some ⟨G, 0, none⟩) (n + 34) (n + 34)]) (by simp [results, Tryd.results26, go_sem, c0, c1, c2, x0, x1, x2, rER, Ne.symm rER, hEw, hRw]) rfl ?_
      refine ⟨G, rfl, valrow_of_own (B := G) (n := n + 34) (c := n + 34) ?_, ?_⟩
      · rw [wide_len, ← show n = _ from HN.out]
        exact own_set (own_set (own_set (own_set HALL.out HEG.out) HRG.out) HRG.out) HRG.out
      · have q1 : w.heap.size ≤ E := by have := HE.out; omega
        have q2 : w.heap.size ≤ R := by have := HE.out; have := HR.out; omega
        have hBB : Below w.heap.size w wr := HB0.out.trans (FL.out.blw.mono (by have := HG.out; have := HB0.out.size; omega))
        repeat (first | exact hBB | refine Below.setCell ?_ (by assumption) _)
end Go.Proofs.YtlinpkmfjkcoiaaDoor
