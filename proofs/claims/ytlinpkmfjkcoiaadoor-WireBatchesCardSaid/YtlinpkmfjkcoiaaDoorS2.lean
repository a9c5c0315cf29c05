/- Contract of package wire's sum. -/
import Derived.Test.YtlinpkmfjkcoiaaDoorF3
import Derived.Test.YtlinpkmfjkcoiaaDoorS1
import Derived.IntWalk
namespace Go.Proofs.YtlinpkmfjkcoiaaDoor
open Go Go.RowKit
set_option maxHeartbeats 2000000
set_option linter.unusedVariables false
set_option linter.unusedSimpArgs false
theorem shr8 (z : Nat) (yk : IntKind) : Op.shift .shr .i64 (z : Int) yk 8 = pure (.int .i64 ((z / 256 : Nat) : Int)) := by
  rw [shift_shr .i64 yk _ 8 (by omega) (by decide)]
  simp
attribute [local go_sem ↓] shr8
/-- the sum as a row of four -/
abbrev sumV (l : List UInt8) : Value := .agg #[.int .u8 ((adQ l / 256 : Nat) : Int), .int .u8 ((adQ l % 256 : Nat) : Int), .int .u8 ((adP l / 256 : Nat) : Int), .int .u8 ((adP l % 256 : Nat) : Int)]
theorem take_snoc {l : List UInt8} {k : Nat} (h : k < l.length) : l.take (k + 1) = l.take k ++ [l[k]] := List.take_succ_eq_append_getElem h
set_option maxRecDepth 100000 in
theorem sum_any (p : Option Addr) (c : Nat) (l : List UInt8) (w : World) (h : In w p l) (hm : l.length ≤ 1048576) : Calls Tryd.prog 51 #[.slice p l.length c] w fun e w' => e = .returned (sumV l) ∧ Below w.heap.size w w' := by
  obtain ⟨n, hn⟩ : ∃ n, n = l.length := ⟨_, rfl⟩
  have HN := Lib.hid hn
  rw [← hn] at hm ⊢
  have hb : Below w.heap.size w (w.alloc (.cells #[.int .u8 0, .int .u8 0, .int .u8 0, .int .u8 0] 90)) := (Below.refl _ _).alloc (Nat.le_refl _) _
  obtain ⟨w0, hw0⟩ : ∃ x, x = w.alloc (.cells #[.int .u8 0, .int .u8 0, .int .u8 0, .int .u8 0] 90) := ⟨_, rfl⟩
  have hq : (∀ j, j < 4 → ∃ u, w0.cell? ⟨w.heap.size, j, none⟩ = some u) ∧ ∀ j, w0.frozen? ⟨w.heap.size, j, none⟩ = false := by
    constructor
    · intro j hj
      have : j = 0 ∨ j = 1 ∨ j = 2 ∨ j = 3 := by omega
      rcases this with rfl | rfl | rfl | rfl <;> exact ⟨.int .u8 0, by rw [hw0]; simp [go_sem]⟩
    · intro j
      rw [hw0]
      simp [go_sem]
  rw [← hw0] at hb
  have HI := Lib.hid (h.below hb)
  have HB := Lib.hid hb
  have HW := Lib.hid hw0
  obtain ⟨R, hR⟩ : ∃ R, R = w.heap.size := ⟨_, rfl⟩
  rw [← hR] at hq
  have HR := Lib.hid hR
  have HQ := Lib.hid hq
  clear h hb hn hw0 hq
  go_enter Tryd.func51, Tryd.ntmps51
  go_upto_region 1 with fail
  rw [← HW.out, ← hR]
  clear hR
  go_wp2
  go_loopw [3, 4, 9] (fun pv qv i wr => ∃ (k P Q : Nat), k ≤ n ∧ i = .int .i64 k ∧ pv = .int .i64 P ∧ qv = .int .i64 Q ∧ wr = w0 ∧ P = adP (l.take k) ∧ Q = adQ (l.take k)) (fun _ _ i _ => n - (intOf i).toNat)
  case atStart => exact ⟨0, 1, 0, Nat.zero_le _, rfl, rfl, rfl, rfl, rfl, rfl⟩
  case round =>
    obtain ⟨k, P, Q, hk, rfl, rfl, rfl, rfl, hP, hQ⟩ := hrel
    have HP := Lib.hid hP
    have HQQ := Lib.hid hQ
    have hP1 : P < 65521 := by rw [hP]; exact adP_lt _
    have hQ1 : Q < 65521 := by rw [hQ]; exact adQ_lt _
    clear hP hQ
    by_cases hlt : k < n
    · have hkl : k < l.length := by rw [← HN.out]; exact hlt
      obtain ⟨b, o, rfl, d⟩ := HI.out k hkl
      obtain ⟨x, hx⟩ : ∃ x, x = l[k] := ⟨_, rfl⟩
      rw [← hx] at d
      have HT : Hid (l.take (k + 1) = l.take k ++ [x]) := by show _ = _; rw [hx]; exact take_snoc hkl
      have hx8 : (x.toNat : Int) < 256 := by have := x.toNat_lt; omega
      have hx0 : x.toNat < 256 := x.toNat_lt
      obtain ⟨P2, hP2⟩ : ∃ P2, P2 = (P + x.toNat) % 65521 := ⟨_, rfl⟩
      obtain ⟨Q2, hQ2⟩ : ∃ Q2, Q2 = (Q + P2) % 65521 := ⟨_, rfl⟩
      have HP2 : Hid (P2 = adP (l.take (k + 1))) := by show _ = _; rw [HT.out, adP_snoc, ← show P = _ from HP.out, hP2]
      have HQ2 : Hid (Q2 = adQ (l.take (k + 1))) := by show _ = _; rw [HT.out, adQ_snoc, ← show Q = _ from HQQ.out, ← HT.out, ← show P2 = _ from HP2.out, hQ2]
      have hP3 : P2 < 65521 := by omega
      have E1 : Hid (((P : Int) + (x.toNat : Int)) % 65521 = (P2 : Int)) := by show _ = _; omega
      have E2 : Hid (((Q : Int) + (P2 : Int)) % 65521 = (Q2 : Int)) := by show _ = _; omega
      clear hkl hx hP2 hQ2
      go_upto_region 6 with fail
      rw [show _ = _ from E1.out]
      go_wp2
      go_roundw
      case rel => exact ⟨k + 1, P2, Q2, by omega, by go_num, by first | rfl | rw [E1.out], by first | rfl | rw [E2.out] | rw [E1.out, E2.out], by first | rfl | trivial, HP2.out, HQ2.out⟩
      case measure => simp [intOf]; omega
    · have hkk : k = n := by omega
      subst hkk
      obtain ⟨u0, c0⟩ := HQ.out.1 0 (by omega)
      obtain ⟨u1, c1⟩ := HQ.out.1 1 (by omega)
      obtain ⟨u2, c2⟩ := HQ.out.1 2 (by omega)
      obtain ⟨u3, c3⟩ := HQ.out.1 3 (by omega)
      have z0 := HQ.out.2 0
      have z1 := HQ.out.2 1
      have z2 := HQ.out.2 2
      have z3 := HQ.out.2 3
      have hRw : R < wr.heap.size := lt_of_cell c0
      have HL : Hid (l.take k = l) := by show _ = _; rw [HN.out, List.take_of_length_le (Nat.le_refl _)]
      go_wp2
      refine bodyPost_ret (v := .agg #[.int .u8 ((Q : Int) / 256), .int .u8 ((Q : Int) % 256), .int .u8 ((P : Int) / 256), .int .u8 ((P : Int) % 256)]) (by simp [results, Tryd.results51, go_sem, c0, c1, c2, c3, hRw]) rfl ?_
      have q : w.heap.size ≤ R := by have := HR.out; omega
      refine ⟨?_, by repeat (first | exact HB.out | refine Below.setCell ?_ (by assumption) _)⟩
      have e1 := HP.out
      have e2 := HQQ.out
      rw [HL.out] at e1 e2
      rw [e1, e2]
      rfl
end Go.Proofs.YtlinpkmfjkcoiaaDoor
