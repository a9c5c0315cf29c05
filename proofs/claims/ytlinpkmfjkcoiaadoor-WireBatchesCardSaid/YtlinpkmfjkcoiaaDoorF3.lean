/- The laws' own functions: begun. -/
import Derived.Test.YtlinpkmfjkcoiaaDoorF2
namespace Go.Proofs.YtlinpkmfjkcoiaaDoor
open Go Go.RowKit
set_option maxHeartbeats 4000000
set_option linter.unusedVariables false
set_option linter.unusedSimpArgs false
theorem Out.inn {w : World} {B : Nat} {p : Option Addr} {n c : Nat} {l : List UInt8} (h : Out w B (.slice p n c) l) : In w p l ∧ l.length ≤ c ∧ c ≤ maxLen := by
  rcases h.2 with ⟨e, e0⟩ | ⟨g, cap, cur, e, _, hb, h2, h3, h4, h5⟩
  · simp only [Value.slice.injEq] at e
    obtain ⟨rfl, rfl, rfl⟩ := e
    have hl := List.eq_nil_of_length_eq_zero e0
    subst hl
    exact ⟨fun i hi => absurd hi (Nat.not_lt_zero _), by simp, Nat.zero_le _⟩
  · simp only [Value.slice.injEq] at e
    obtain ⟨rfl, rfl, rfl⟩ := e
    refine ⟨fun i hi => ⟨g, 0, rfl, ?_⟩, h2, h3⟩
    have hc := World.ownsRow.cells (g := g) h rfl i _ (by unfold Lib.byteCells; rw [List.getElem?_map, List.getElem?_eq_getElem hi]; rfl)
    rw [Addr.add_lit] at hc
    exact hc
theorem cells4_cons (v : V4) (vl : List V4) : cells4 (v :: vl) = .int .i64 v.k :: .int .i64 v.n :: .string v.s :: .bool v.b :: cells4 vl := rfl
theorem cells4_at : ∀ (vl : List V4) (i : Nat) (h : i < vl.length), (cells4 vl)[i * 4]? = some (.int .i64 vl[i].k) ∧ (cells4 vl)[i * 4 + 1]? = some (.int .i64 vl[i].n) ∧ (cells4 vl)[i * 4 + 2]? = some (.string vl[i].s) ∧ (cells4 vl)[i * 4 + 3]? = some (.bool vl[i].b)
  | v :: vl, 0, h => ⟨rfl, rfl, rfl, rfl⟩
  | v :: vl, i + 1, h => by
    have := cells4_at vl i (by simpa using h)
    rw [cells4_cons, show (i + 1) * 4 = i * 4 + 1 + 1 + 1 + 1 by omega, show i * 4 + 1 + 1 + 1 + 1 + 1 = (i * 4 + 1) + 1 + 1 + 1 + 1 by omega, show i * 4 + 1 + 1 + 1 + 1 + 2 = (i * 4 + 2) + 1 + 1 + 1 + 1 by omega, show i * 4 + 1 + 1 + 1 + 1 + 3 = (i * 4 + 3) + 1 + 1 + 1 + 1 by omega]
    simp only [List.getElem?_cons_succ]
    exact this
/-- what is owned reads as values -/
theorem valrow_of_own {w : World} {B : Nat} {p : Option Addr} {n c : Nat} {vl : List V4} (h : w.ownsRow B 96 4 (.slice p n c) vl.length (cells4 vl)) : ValRow w p vl := by
  intro i hi
  rcases h.2 with ⟨h1, h0⟩ | ⟨g, cap, cur, h1, _⟩
  · omega
  · simp only [Value.slice.injEq] at h1
    obtain ⟨rfl, rfl, rfl⟩ := h1
    have hrow := fun j u hu => h.cells (g := g) rfl j u hu
    obtain ⟨k0, k1, k2, k3⟩ := cells4_at vl i hi
    have c0 := hrow _ _ k0
    have c1 := hrow _ _ k1
    have c2 := hrow _ _ k2
    have c3 := hrow _ _ k3
    rw [Addr.add_lit] at c0 c1 c2 c3
    exact ⟨g, 0, rfl, c0, by rw [Nat.add_assoc]; exact c1, by rw [Nat.add_assoc]; exact c2, by rw [Nat.add_assoc]; exact c3⟩
theorem evtR_law : Form evtR evtW OkE := evtR_form fun _ h => name_len h
theorem tick_read : evtR tickB = .ok tickE 15 := by
  have := evtR_law.there tickE tick_ok []
  rw [List.append_nil, tick_w] at this
  exact this
theorem encode_tick (p : Option Addr) (c : Nat) (w : World) (hK : Kw w) (hr : ValRow w p tickV) :
    Calls Tryd.prog 16 #[.agg #[.string ⟨#[84, 105, 99, 107]⟩, .int .i64 5, .slice p 3 c]] w fun e w' => ∃ q d, e = .returned (.tuple #[.slice q 15 d, .int .i64 0]) ∧ In w' q tickB ∧ Below w.heap.size w w' := by
  refine (encode_any ⟨#[84, 105, 99, 107]⟩ 5 tickV p c w hK hr (by show 3 ≤ maxLen; unfold maxLen; omega) (fun v hv => (tick_ok.2.2.2 v hv).2)).mono ?_
  rintro e w' ⟨hb, h | h⟩
  · obtain ⟨_, _, q, d, he, ho⟩ := h
    have e1 : evtW ⟨⟨#[84, 105, 99, 107]⟩, 5, tickV⟩ = tickB := tick_w
    rw [e1] at he ho
    exact ⟨q, d, he, ho.inn.1, hb⟩
  · exact absurd (encF_ok tick_ok) h.1
theorem decode_tick (p : Option Addr) (c : Nat) (w : World) (hK : Kw w) (hr : In w p tickB) (hc : 15 ≤ c) (hm : c ≤ maxLen) :
    Calls Tryd.prog 17 #[.slice p 15 c] w fun e w' => ∃ q d, e = .returned (.tuple #[.agg #[.string ⟨#[84, 105, 99, 107]⟩, .int .i64 5, .slice q 3 d], .int .i64 15, .int .i64 0]) ∧ ValRow w' q tickV ∧ Below w.heap.size w w' := by
  refine (decode_any p c tickB w hr hc hm hK).mono ?_
  rintro e w' ⟨hb, h⟩
  rw [tick_read] at h
  obtain ⟨v, he, hn⟩ := h
  obtain ⟨q, d, rfl⟩ := own_form hn
  exact ⟨q, d, he, valrow_of_own hn, hb⟩
set_option maxRecDepth 100000 in
theorem begun_any (w : World) (hK : Kw w) : Calls Tryd.prog 11 #[] w fun e w' => e = .returned (.bool true) ∧ Below w.heap.size w w' := by
  have HK := Lib.hid hK
  clear hK
  have HS : Hid (∀ (wx : World) (p1 p2 : Option Addr) (c1 c2 : Nat), In wx p1 tickB → In wx p2 tickB → Calls Tryd.prog 22 #[.slice p1 15 c1, .slice p2 15 c2] wx fun e w' => e = .returned (.bool true) ∧ Below wx.heap.size wx w') := fun wx p1 p2 c1 c2 h1 h2 => same_true tickB p1 p2 c1 c2 wx h1 h2 (by show 15 ≤ maxLen; unfold maxLen; omega)
  have HV : Hid (∀ (wx : World) (p1 p2 : Option Addr) (c1 c2 : Nat), ValRow wx p1 tickV → ValRow wx p2 tickV → Calls Tryd.prog 18 #[.agg #[.string ⟨#[84, 105, 99, 107]⟩, .int .i64 5, .slice p1 3 c1], .agg #[.string ⟨#[84, 105, 99, 107]⟩, .int .i64 5, .slice p2 3 c2]] wx fun e w' => e = .returned (.bool true) ∧ Below wx.heap.size wx w') := fun wx p1 p2 c1 c2 h1 h2 => events_true ⟨#[84, 105, 99, 107]⟩ 5 tickV p1 p2 c1 c2 wx h1 h2 (by show 3 ≤ maxLen; unfold maxLen; omega)
  go_enter Tryd.func11, Tryd.ntmps11
  go_wp2_with fail
  refine (tick_any w).mono ?_
  rintro e w1 ⟨p, q, c, d, rfl, hvr, hin, hd1, hd2, hb1⟩
  have HB1 := Lib.hid hb1
  have HVR1 := Lib.hid hvr
  have HIN1 := Lib.hid hin
  clear hb1 hvr hin
  go_upto_region 2 with fail
  have T1 : Hid (Three (w1.alloc (.cells #[.string ⟨#[84, 105, 99, 107]⟩, .int .i64 5, .slice p 3 c] 24)) w1.heap.size ⟨#[84, 105, 99, 107]⟩ 5 (.slice p 3 c)) := Three.new w1 _ _ _ _ _
  have hb2 : Below w1.heap.size w1 (w1.alloc (.cells #[.string ⟨#[84, 105, 99, 107]⟩, .int .i64 5, .slice p 3 c] 24)) := (Below.refl _ _).alloc (Nat.le_refl _) _
  obtain ⟨w2, hw2⟩ : ∃ x, x = w1.alloc (.cells #[.string ⟨#[84, 105, 99, 107]⟩, .int .i64 5, .slice p 3 c] 24) := ⟨_, rfl⟩
  rw [← hw2] at T1 hb2 ⊢
  obtain ⟨E, hE⟩ : ∃ E, E = w1.heap.size := ⟨_, rfl⟩
  rw [← hE] at T1 ⊢
  have HB2 : Hid (Below w.heap.size w w2) := HB1.out.trans (hb2.mono HB1.out.size)
  have HVR2 := Lib.hid (HVR1.out.below hb2)
  have HIN2 := Lib.hid (HIN1.out.below hb2)
  clear hw2 hb2 hE
  obtain ⟨c0, c1, c2, _, _, _⟩ := T1.out
  go_wp2_with fail
  refine (encode_tick p c w2 (HK.out.below HB2.out) HVR2.out).mono ?_
  rintro e w3 ⟨q3, d3, rfl, hin3, hb3⟩
  have T3 := Lib.hid (T1.out.below hb3)
  have HB3 : Hid (Below w.heap.size w w3) := HB2.out.trans (hb3.mono HB2.out.size)
  have HVR3 := Lib.hid (HVR2.out.below hb3)
  have HIN3 := Lib.hid (HIN2.out.below hb3)
  have HIC3 := Lib.hid hin3
  clear hb3 hin3 c0 c1 c2
  obtain ⟨c0, c1, c2, _, _, _⟩ := T3.out
  go_wp2_with fail
  refine (decode_tick q d w3 (HK.out.below HB3.out) HIN3.out hd1 hd2).mono ?_
  rintro e w4 ⟨q4, d4, rfl, hvr4, hb4⟩
  have T4 := Lib.hid (T3.out.below hb4)
  have HB4 : Hid (Below w.heap.size w w4) := HB3.out.trans (hb4.mono HB3.out.size)
  have HVR4 := Lib.hid (HVR3.out.below hb4)
  have HIN4 := Lib.hid (HIN3.out.below hb4)
  have HIC4 := Lib.hid (HIC3.out.below hb4)
  have HVD4 := Lib.hid hvr4
  clear hb4 hvr4 c0 c1 c2
  go_upto_region 4 with fail
  have T5 : Hid (Three (w4.alloc (.cells #[.string ⟨#[84, 105, 99, 107]⟩, .int .i64 5, .slice q4 3 d4] 24)) w4.heap.size ⟨#[84, 105, 99, 107]⟩ 5 (.slice q4 3 d4)) := Three.new w4 _ _ _ _ _
  have hb5 : Below w4.heap.size w4 (w4.alloc (.cells #[.string ⟨#[84, 105, 99, 107]⟩, .int .i64 5, .slice q4 3 d4] 24)) := (Below.refl _ _).alloc (Nat.le_refl _) _
  obtain ⟨w5, hw5⟩ : ∃ x, x = w4.alloc (.cells #[.string ⟨#[84, 105, 99, 107]⟩, .int .i64 5, .slice q4 3 d4] 24) := ⟨_, rfl⟩
  rw [← hw5] at T5 hb5 ⊢
  obtain ⟨D, hD⟩ : ∃ D, D = w4.heap.size := ⟨_, rfl⟩
  rw [← hD] at T5 ⊢
  have HB5 : Hid (Below w.heap.size w w5) := HB4.out.trans (hb5.mono HB4.out.size)
  have T4' := Lib.hid (T4.out.below hb5)
  have HVR5 := Lib.hid (HVR4.out.below hb5)
  have HIN5 := Lib.hid (HIN4.out.below hb5)
  have HIC5 := Lib.hid (HIC4.out.below hb5)
  have HVD5 := Lib.hid (HVD4.out.below hb5)
  clear hw5 hb5 hD
  go_wp2_with fail
  refine (HS.out w5 q q3 d d3 HIN5.out HIC5.out).mono ?_
  rintro e w6 ⟨rfl, hb6⟩
  have HB6 : Hid (Below w.heap.size w w6) := HB5.out.trans (hb6.mono HB5.out.size)
  have T6 := Lib.hid (T4'.out.below hb6)
  have T7 := Lib.hid (T5.out.below hb6)
  have HVR6 := Lib.hid (HVR5.out.below hb6)
  have HVD6 := Lib.hid (HVD5.out.below hb6)
  clear hb6
  obtain ⟨c0, c1, c2, _, _, _⟩ := T6.out
  obtain ⟨e0, e1, e2, _, _, _⟩ := T7.out
  go_wp2_with fail
  refine (HV.out w6 q4 p d4 c HVD6.out HVR6.out).mono ?_
  rintro e w7 ⟨rfl, hb7⟩
  have HB7 : Hid (Below w.heap.size w w7) := HB6.out.trans (hb7.mono HB6.out.size)
  clear hb7
  go_wp2
  go_ret
  exact ⟨rfl, HB7.out⟩
end Go.Proofs.YtlinpkmfjkcoiaaDoor
