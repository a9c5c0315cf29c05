/- The laws' own functions: same, vals, events, where both sides are alike. -/
import Derived.Test.YtlinpkmfjkcoiaaDoorE5
namespace Go.Proofs.YtlinpkmfjkcoiaaDoor
open Go Go.RowKit
set_option maxHeartbeats 4000000
set_option linter.unusedVariables false
set_option linter.unusedSimpArgs false
theorem veq_refl (k n : Int) (s : ByteArray) (b : Bool) : veq k n s b k n s b = true := by simp [veq]
theorem run_neq_VV (w : World) (k n : Int) (s : ByteArray) (b : Bool) :
    (binOp .neq 96 (.agg #[.int .i64 k, .int .i64 n, .string s, .bool b]) (.agg #[.int .i64 k, .int .i64 n, .string s, .bool b])).run Tryd.prog w = .ok (.bool false) w := by
  rw [run_neq_V, veq_refl]; rfl
attribute [local go_sem ↓] run_neq_VV
theorem In.drewN {w : World} {p : Option Addr} {l : List UInt8} (h : In w p l) (m : Nat) : In (w.drewN m) p l := h
theorem drewN_drewN (w : World) (a b : Nat) : (w.drewN a).drewN b = w.drewN (a + b) := by
  show World.mk _ _ _ _ _ = World.mk _ _ _ _ _
  simp [World.drewN]
  try omega
theorem below_drewN' {B : Nat} {a w : World} (h : Below B a w) (n : Nat) : Below B a (w.drewN n) := ⟨h.os, h.tape, h.output, h.size, h.block⟩
set_option maxRecDepth 100000 in
theorem same_true (l : List UInt8) (p1 p2 : Option Addr) (c1 c2 : Nat) (w : World) (h1 : In w p1 l) (h2 : In w p2 l) (hm : l.length ≤ maxLen) :
    Calls Tryd.prog 22 #[.slice p1 l.length c1, .slice p2 l.length c2] w fun e w' => e = .returned (.bool true) ∧ Below w.heap.size w w' := by
  obtain ⟨n, hn⟩ : ∃ n, n = l.length := ⟨_, rfl⟩
  have HN := Lib.hid hn
  rw [← hn] at hm ⊢
  have H1 := Lib.hid h1
  have H2 := Lib.hid h2
  unfold maxLen at hm
  clear hn h1 h2
  have HB : Hid (∀ m, Below w.heap.size w (w.drewN m)) := fun m => below_drewN' (Below.refl _ _) m
  go_enter Tryd.func22, Tryd.ntmps22
  go_wp2
  go_loopw [5] (fun i wr => ∃ k m : Nat, k ≤ n ∧ i = .int .i64 k ∧ wr = w.drewN m) (fun i _ => n - (intOf i).toNat)
  case atStart => exact ⟨0, 0, Nat.zero_le _, rfl, rfl⟩
  case round =>
    obtain ⟨k, m, hk, rfl, hwr⟩ := hrel
    by_cases hlt : k < n
    · have hkl : k < l.length := by rw [← HN.out]; exact hlt
      obtain ⟨b, o, rfl, c⟩ := H1.out k hkl
      obtain ⟨b', o', rfl, c'⟩ := H2.out k hkl
      obtain ⟨x, hx⟩ : ∃ x, x = l[k].toNat := ⟨_, rfl⟩
      rw [← hx] at c c'
      have d : wr.cell? ⟨b, o + k, none⟩ = some (.int .u8 (x : Int)) := by rw [hwr]; exact c
      have d' : wr.cell? ⟨b', o' + k, none⟩ = some (.int .u8 (x : Int)) := by rw [hwr]; exact c'
      have HWR := Lib.hid hwr
      clear hwr c c' hx hkl
      go_wp2
      go_quiet (fail)
      go_wp2
      go_roundw
      case rel => exact ⟨k + 1, m + nq, by omega, by go_num, by rw [HWR.out, drewN_drewN]⟩
      case measure => simp [intOf]; omega
    · have HWR := Lib.hid hwr
      clear hwr
      go_wp2
      go_ret
      exact ⟨rfl, by rw [HWR.out]; exact HB.out m⟩
theorem ValRow.drewN {w : World} {p : Option Addr} {vl : List V4} (h : ValRow w p vl) (m : Nat) : ValRow (w.drewN m) p vl := h
set_option maxRecDepth 100000 in
theorem vals_true (vl : List V4) (p1 p2 : Option Addr) (c1 c2 : Nat) (w : World) (h1 : ValRow w p1 vl) (h2 : ValRow w p2 vl) (hm : vl.length ≤ maxLen) :
    Calls Tryd.prog 50 #[.slice p1 vl.length c1, .slice p2 vl.length c2] w fun e w' => e = .returned (.bool true) ∧ Below w.heap.size w w' := by
  obtain ⟨n, hn⟩ : ∃ n, n = vl.length := ⟨_, rfl⟩
  have HN := Lib.hid hn
  rw [← hn] at hm ⊢
  have H1 := Lib.hid h1
  have H2 := Lib.hid h2
  unfold maxLen at hm
  clear hn h1 h2
  have HB : Hid (∀ m, Below w.heap.size w (w.drewN m)) := fun m => below_drewN' (Below.refl _ _) m
  go_enter Tryd.func50, Tryd.ntmps50
  go_wp2
  go_loopw [5] (fun i wr => ∃ k m : Nat, k ≤ n ∧ i = .int .i64 k ∧ wr = w.drewN m) (fun i _ => n - (intOf i).toNat)
  case atStart => exact ⟨0, 0, Nat.zero_le _, rfl, rfl⟩
  case round =>
    obtain ⟨k, m, hk, rfl, hwr⟩ := hrel
    by_cases hlt : k < n
    · have hkl : k < vl.length := by rw [← HN.out]; exact hlt
      obtain ⟨u, b, o, hu, rfl, c0, c1, c2, c3⟩ := (H1.out.drewN m).nth hkl
      obtain ⟨u', b', o', hu', rfl, d0, d1, d2, d3⟩ := (H2.out.drewN m).nth hkl
      obtain rfl : u' = u := hu'.trans hu.symm
      obtain ⟨uk, un, us, ub⟩ := u'
      rw [← hwr] at c0 c1 c2 c3 d0 d1 d2 d3
      have HWR := Lib.hid hwr
      clear hwr hu hu' hkl
      go_wp2
      go_quiet (fail)
      go_wp2
      go_roundw
      case rel => exact ⟨k + 1, m + nq, by omega, by go_num, by rw [HWR.out, drewN_drewN]⟩
      case measure => simp [intOf]; omega
    · have HWR := Lib.hid hwr
      clear hwr
      go_wp2
      go_ret
      exact ⟨rfl, by rw [HWR.out]; exact HB.out m⟩
set_option maxRecDepth 100000 in
theorem events_true (ty : ByteArray) (tm : Int) (vl : List V4) (p1 p2 : Option Addr) (c1 c2 : Nat) (w : World) (h1 : ValRow w p1 vl) (h2 : ValRow w p2 vl) (hm : vl.length ≤ maxLen) :
    Calls Tryd.prog 18 #[.agg #[.string ty, .int .i64 tm, .slice p1 vl.length c1], .agg #[.string ty, .int .i64 tm, .slice p2 vl.length c2]] w fun e w' => e = .returned (.bool true) ∧ Below w.heap.size w w' := by
  obtain ⟨w0, hw0⟩ : ∃ x, x = (w.alloc (.cells #[.string ty, .int .i64 tm, .slice p1 vl.length c1] 24)).alloc (.cells #[.string ty, .int .i64 tm, .slice p2 vl.length c2] 24) := ⟨_, rfl⟩
  have hb0 : Below w.heap.size w w0 := by rw [hw0]; exact ((Below.refl _ _).alloc (Nat.le_refl _) _).alloc (by simp) _
  have hv := vals_true vl p1 p2 c1 c2 w0 (h1.below hb0) (h2.below hb0) hm
  have HB0 := Lib.hid hb0
  have T1 : Hid (Three w0 w.heap.size ty tm (.slice p1 vl.length c1)) := by show Three _ _ _ _ _; rw [hw0]; exact (Three.new w ty tm p1 vl.length c1).below ((Below.refl _ _).alloc (Nat.le_refl _) _)
  have T2 : Hid (Three w0 (w.heap.size + 1) ty tm (.slice p2 vl.length c2)) := by
    have := Three.new (w.alloc (.cells #[.string ty, .int .i64 tm, .slice p1 vl.length c1] 24)) ty tm p2 vl.length c2
    rw [World.size_alloc] at this
    show Three _ _ _ _ _
    rw [hw0]
    exact this
  have HW := Lib.hid hw0
  obtain ⟨n, hn⟩ : ∃ n, n = vl.length := ⟨_, rfl⟩
  rw [← hn] at hv T1 T2 HW ⊢
  clear hw0 hb0 h1 h2 hm hn
  obtain ⟨c0, c1', c2', _, _, _⟩ := T1.out
  obtain ⟨d0, d1', d2', _, _, _⟩ := T2.out
  go_enter Tryd.func18, Tryd.ntmps18
  go_upto_region 1 with fail
  rw [← HW.out]
  go_wp2_with fail
  refine hv.mono ?_
  rintro e w1 ⟨rfl, hb1⟩
  have HB1 : Hid (Below w.heap.size w w1) := HB0.out.trans (hb1.mono HB0.out.size)
  clear hb1 hv
  go_wp2
  go_ret
  exact ⟨rfl, HB1.out⟩
end Go.Proofs.YtlinpkmfjkcoiaaDoor
