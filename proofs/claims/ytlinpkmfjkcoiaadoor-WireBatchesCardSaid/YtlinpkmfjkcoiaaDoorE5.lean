/- Contract of package wire's Encode. -/
import Derived.Test.YtlinpkmfjkcoiaaDoorE4
namespace Go.Proofs.YtlinpkmfjkcoiaaDoor
open Go Go.RowKit
set_option maxHeartbeats 4000000
set_option linter.unusedVariables false
set_option linter.unusedSimpArgs false
def EncIs (w : World) (ev : Evt) (e : Ending) (w' : World) : Prop := Below w.heap.size w w' ∧
  ((encF ev.ty.toList ev.tm ev.vals = 0 ∧ OkE ev ∧ ∃ p c, e = .returned (.tuple #[.slice p (evtW ev).length c, .int .i64 0]) ∧ Out w' w.heap.size (.slice p (evtW ev).length c) (evtW ev)) ∨
    (encF ev.ty.toList ev.tm ev.vals ≠ 0 ∧ e = .returned (.tuple #[.slice none 0 0, .int .i64 (encF ev.ty.toList ev.tm ev.vals)])))
theorem ok_of {ty : ByteArray} {tm : Int} {vl : List V4} (h : encF ty.toList tm vl = 0) (hi : ∀ v ∈ vl, In4 v) : OkE ⟨ty, tm, vl⟩ := by
  unfold encF at h
  split at h
  · cases h
  · rename_i h1
    split at h
    · cases h
    · rename_i h2
      split at h
      · cases h
      · rename_i h3
        split at h
        · rename_i h4
          rw [List.all_eq_true] at h4
          exact ⟨by simpa using h1, by simp only; omega, by simp only; omega, fun v hv => ⟨h4 v hv, hi v hv⟩⟩
        · cases h
theorem encF_ok {ev : Evt} (h : OkE ev) : encF ev.ty.toList ev.tm ev.vals = 0 := by
  obtain ⟨h1, h2, h3, h4⟩ := h
  have h5 : ev.vals.all okB = true := List.all_eq_true.2 fun v hv => (h4 v hv).1
  unfold encF
  rw [if_neg (by rw [h1]; decide), if_neg (by omega), if_neg (by omega), if_pos h5]
set_option maxRecDepth 100000 in
theorem encode_any (ty : ByteArray) (tm : Int) (vl : List V4) (p : Option Addr) (c : Nat) (w : World) (hK : Kw w) (hr : ValRow w p vl) (hm : vl.length ≤ maxLen) (hi : ∀ v ∈ vl, In4 v) :
    Calls Tryd.prog 16 #[.agg #[.string ty, .int .i64 tm, .slice p vl.length c]] w (EncIs w ⟨ty, tm, vl⟩) := by
  obtain ⟨w0, hw0⟩ : ∃ x, x = w.alloc (.cells #[.string ty, .int .i64 tm, .slice p vl.length c] 24) := ⟨_, rfl⟩
  have hb0 : Below w.heap.size w w0 := by rw [hw0]; exact (Below.refl _ _).alloc (Nat.le_refl _) _
  have hF := fault_any ty tm vl p c w0 (hK.below hb0) (hr.below hb0) hm
  have HR0 := Lib.hid (hr.below hb0)
  have HB0 := Lib.hid hb0
  have T0 : Hid (Three w0 w.heap.size ty tm (.slice p vl.length c)) := by show Three _ _ _ _ _; rw [hw0]; exact Three.new w ty tm p vl.length c
  have HW := Lib.hid hw0
  obtain ⟨n, hn⟩ : ∃ n, n = vl.length := ⟨_, rfl⟩
  have HN := Lib.hid hn
  rw [← hn] at hF T0 HW hm ⊢
  have HI := Lib.hid hi
  obtain ⟨F, hFF⟩ : ∃ F, F = encF ty.toList tm vl := ⟨_, rfl⟩
  rw [← hFF] at hF
  have HFF := Lib.hid hFF
  clear hw0 hb0 hK hr hn hi hFF
  obtain ⟨c0, c1, c2, z0, z1, z2⟩ := T0.out
  go_enter Tryd.func16, Tryd.ntmps16
  go_upto_region 1 with fail
  rw [← HW.out]
  go_wp2_with fail
  refine hF.mono ?_
  rintro e w1 ⟨rfl, hb1⟩
  have T1 := Lib.hid (T0.out.below hb1)
  have HB1 : Hid (Below w.heap.size w w1) := HB0.out.trans (hb1.mono HB0.out.size)
  have HR1 := Lib.hid (HR0.out.below hb1)
  clear c0 c1 c2 z0 z1 z2 hb1 hF
  obtain ⟨c0, c1, c2, z0, z1, z2⟩ := T1.out
  by_cases h0 : F = 0
  · have d0 : (F != 0) = false := by simpa using h0
    have H0 := Lib.hid h0
    clear h0
    have HOK := Lib.hid (ok_of (by rw [← show _ = _ from HFF.out]; exact H0.out) HI.out)
    have hA := appendEvent_any ⟨ty, tm, vl⟩ HOK.out w.heap.size (.slice none 0 0) [] p c w1 HB1.out.size (Out.nil _ _) (by simp) HR1.out (fun a _ => by simp [Value.ownBlock])
    rw [List.nil_append] at hA
    simp only at hA
    rw [← show n = _ from HN.out] at hA
    go_wp2_with fail
    refine hA.mono ?_
    obtain ⟨L, hL⟩ : ∃ L, L = evtW ⟨ty, tm, vl⟩ := ⟨_, rfl⟩
    rw [← hL]
    rintro e w2 ⟨p2, c2', rfl, ho2, hw2⟩
    have HO2 := Lib.hid ho2
    have HB2 : Hid (Below w.heap.size w w2) := HB1.out.trans (hw2.below (Out.nil w1 w.heap.size) HB1.out.size)
    have HL := Lib.hid hL
    clear ho2 hw2 hA hL
    go_wp2
    first | go_ret2 | skip
    refine ⟨HB2.out, .inl ⟨(show _ = _ from HFF.out).symm.trans H0.out, HOK.out, p2, c2', ?_, ?_⟩⟩
    · rw [← show L = _ from HL.out]; rfl
    · rw [← show L = _ from HL.out]; exact HO2.out
  · have d0 : (F != 0) = true := by simpa using h0
    have H0 := Lib.hid h0
    clear h0
    go_wp2
    first | go_ret2 | skip
    exact ⟨HB1.out, .inr ⟨by rw [← show F = _ from HFF.out]; exact H0.out, by rw [← show F = _ from HFF.out]; rfl⟩⟩
end Go.Proofs.YtlinpkmfjkcoiaaDoor
