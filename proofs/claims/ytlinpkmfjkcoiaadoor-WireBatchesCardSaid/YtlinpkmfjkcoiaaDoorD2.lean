/- Contract of package wire's Decode. -/
import Derived.Test.YtlinpkmfjkcoiaaDoorD1
namespace Go.Proofs.YtlinpkmfjkcoiaaDoor
open Go Go.RowKit
set_option maxHeartbeats 4000000
set_option linter.unusedVariables false
set_option linter.unusedSimpArgs false
/-- the row that was answered is new, and reads as these values -/
def NewVals (B : Nat) (w' : World) (v : Value) (vl : List V4) : Prop := w'.ownsRow B 96 4 v vl.length (cells4 vl)
def DecIs (w : World) (l : List UInt8) (e : Ending) (w' : World) : Prop := Below w.heap.size w w' ∧ match evtR l with
  | .bad E => e = .returned (.tuple #[.agg #[.string ⟨#[]⟩, .int .i64 0, .slice none 0 0], .int .i64 0, .int .i64 E]) ∧ E ≠ 0
  | .ok ev k => ∃ v, e = .returned (.tuple #[.agg #[.string ev.ty, .int .i64 ev.tm, v], .int .i64 k, .int .i64 0]) ∧ NewVals w.heap.size w' v ev.vals
theorem own_form {w : World} {B : Nat} {v : Value} {n : Nat} {xs : List Value} (h : w.ownsRow B 96 4 v n xs) : ∃ p c, v = .slice p n c := by
  rcases h.2 with ⟨rfl, rfl⟩ | ⟨g, cap, cur, rfl, _⟩
  · exact ⟨none, 0, rfl⟩
  · exact ⟨_, _, rfl⟩
theorem own_drew {w : World} {B : Nat} {v : Value} {n : Nat} {xs : List Value} (h : w.ownsRow B 96 4 v n xs) : w.drew.ownsRow B 96 4 v n xs := h
set_option maxRecDepth 100000 in
theorem decode_any (p : Option Addr) (c : Nat) (l : List UInt8) (w : World) (h : In w p l) (hc : l.length ≤ c) (hm : c ≤ maxLen) (hK : Kw w) : Calls Tryd.prog 17 #[.slice p l.length c] w (DecIs w l) := by
  have hA : Below w.heap.size w (w.alloc (.cells #[.string ⟨#[]⟩, .int .i64 0, .slice none 0 0] 24)) := (Below.refl _ _).alloc (Nat.le_refl _) _
  have hb0 : Below w.heap.size w ((w.alloc (.cells #[.string ⟨#[]⟩, .int .i64 0, .slice none 0 0] 24)).alloc (.cells #[.slice p l.length c, .int .i64 0, .int .i64 0] 84)) := hA.alloc (by simp) _
  have hr0 := Rdr.new (w.alloc (.cells #[.string ⟨#[]⟩, .int .i64 0, .slice none 0 0] 24)) p l.length c
  simp only [World.size_alloc] at hr0
  have hL : Lies ((w.alloc (.cells #[.string ⟨#[]⟩, .int .i64 0, .slice none 0 0] 24)).alloc (.cells #[.slice p l.length c, .int .i64 0, .int .i64 0] 84)) (w.heap.size + 1) p c l 0 0 := ⟨hr0, h.byt hb0 (by omega), Nat.zero_le _, hc, hm⟩
  have T0 : Hid (Three ((w.alloc (.cells #[.string ⟨#[]⟩, .int .i64 0, .slice none 0 0] 24)).alloc (.cells #[.slice p l.length c, .int .i64 0, .int .i64 0] 84)) w.heap.size ⟨#[]⟩ 0 (.slice none 0 0)) := (Three.new w ⟨#[]⟩ 0 none 0 0).below ((Below.refl _ _).alloc (Nat.le_refl _) _)
  have HL := Lib.hid hL
  have HB0 := Lib.hid hb0
  have HK0 := Lib.hid (hK.below hb0)
  have S0 : Hid (w.heap.size + 1 < ((w.alloc (.cells #[.string ⟨#[]⟩, .int .i64 0, .slice none 0 0] 24)).alloc (.cells #[.slice p l.length c, .int .i64 0, .int .i64 0] 84)).heap.size) := by show _ < _; simp
  obtain ⟨w0, hw0⟩ : ∃ x, x = (w.alloc (.cells #[.string ⟨#[]⟩, .int .i64 0, .slice none 0 0] 24)).alloc (.cells #[.slice p l.length c, .int .i64 0, .int .i64 0] 84) := ⟨_, rfl⟩
  rw [← hw0] at HL HB0 T0 S0 HK0
  have HW := Lib.hid hw0
  obtain ⟨B, hB⟩ : ∃ B, B = w.heap.size := ⟨_, rfl⟩
  have HB := Lib.hid hB
  rw [← hB] at HL T0 S0
  have hBs : Hid (B + 1 ≤ w0.heap.size) := Nat.le_of_lt S0.out
  clear h hL hb0 hw0 hr0 hA hK
  go_enter Tryd.func17, Tryd.ntmps17
  go_upto_region 2 with fail
  rw [← HW.out, ← hB]
  clear hB
  go_wp2_with fail
  refine (event_r (B + 1) p c l 0 0 w0 HL.out HK0.out (by omega)).mono ?_
  rintro e w1 ⟨ty, tm, vl, v, a', f', rfl, hown, haf, hca⟩
  obtain ⟨vp, vc, rfl⟩ := own_form hown
  have HCA := Lib.hid hca
  have HB1 : Hid (Below w.heap.size w w1) := HB0.out.trans (Below.of_grown haf.g (by have := HB.out; omega) HB0.out.size)
  have T1 := Lib.hid (T0.out.keeps haf.g (by omega))
  have OWN := Lib.hid hown
  have SB : Hid (B < w0.heap.size) := by have := S0.out; show _ < _; omega
  have S1 : Hid (B + 1 < w1.heap.size) := Nat.lt_of_lt_of_le S0.out haf.g.size
  obtain ⟨c0, c1, c2, z1, z2⟩ := haf.r
  clear hca haf hown
  have hs1 := S1.out
  have hs0 : B < w1.heap.size := by omega
  obtain ⟨y0, y1, y2, yz0, yz1, yz2⟩ := T1.out
  have T2 := Lib.hid (Three.new w1 ty tm vp vl.length vc)
  by_cases hf : f' = 0
  · have df : (f' != 0) = false := by simpa using hf
    have HF := Lib.hid hf
    clear hf
    go_wp2
    go_region
    all_goals
      go_wp2
      refine bodyPost_ret (v := .tuple #[.agg #[.string ty, .int .i64 tm, .slice vp vl.length vc], .int .i64 a', .int .i64 0]) (by simp [results, Tryd.results17, go_sem, y0, y1, y2, hs0, hs1]) rfl ?_
      have q : w.heap.size ≤ B := by have := HB.out; omega
      have q1 : w.heap.size ≤ w1.heap.size := HB1.out.size
      refine ⟨by repeat (first | exact HB1.out | apply Below.drew | refine Below.setCell ?_ (by assumption) _ | refine Below.alloc ?_ (by first | assumption | (simp [World.setCell]; done) | (simp [World.setCell]; assumption)) _), ?_⟩
      rcases HCA.out with ⟨h, _⟩ | ⟨_, h⟩
      · exact absurd rfl h
      · cases hr : evtR (l.drop 0) with
        | bad E => rw [hr] at h; exact absurd (h.1.symm.trans HF.out) h.2
        | ok ev k =>
          rw [hr] at h
          obtain ⟨_, h2, rfl⟩ := h
          rw [List.drop_zero] at hr
          rw [hr]
          simp only
          rw [h2, Nat.zero_add]
          refine ⟨_, rfl, ?_⟩
          exact own_base ((own_set (own_set (own_set OWN.out SB.out) SB.out) SB.out).alloc _) HB0.out.size
  · have df : (f' != 0) = true := by simpa using hf
    have HF := Lib.hid hf
    clear hf
    go_wp2
    go_region
    all_goals
      go_wp2
      refine bodyPost_ret (v := .tuple #[.agg #[.string ⟨#[]⟩, .int .i64 0, .slice none 0 0], .int .i64 0, .int .i64 f']) (by simp [results, Tryd.results17, go_sem, y0, y1, y2, hs0, hs1]) rfl ?_
      have q : w.heap.size ≤ B := by have := HB.out; omega
      have q1 : w.heap.size ≤ w1.heap.size := HB1.out.size
      refine ⟨by repeat (first | exact HB1.out | apply Below.drew | refine Below.setCell ?_ (by assumption) _ | refine Below.alloc ?_ (by first | assumption | (simp [World.setCell]; done) | (simp [World.setCell]; assumption)) _), ?_⟩
      rcases HCA.out with ⟨h, _⟩ | ⟨_, h⟩
      · exact absurd rfl h
      · cases hr : evtR (l.drop 0) with
        | bad E =>
          rw [hr] at h
          rw [List.drop_zero] at hr
          rw [hr]
          exact ⟨by rw [h.1], h.2⟩
        | ok v k =>
          rw [hr] at h
          exact absurd h.1 HF.out
end Go.Proofs.YtlinpkmfjkcoiaaDoor
