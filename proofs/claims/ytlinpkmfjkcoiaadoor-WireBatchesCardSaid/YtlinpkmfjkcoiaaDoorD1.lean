/- Contracts of package wire's Int and Decode. -/
import Derived.Test.YtlinpkmfjkcoiaaDoorR8
import Derived.RegionTactic
import Derived.ChangeAlike
namespace Go.Proofs.YtlinpkmfjkcoiaaDoor
open Go Go.RowKit
set_option maxHeartbeats 4000000
set_option linter.unusedVariables false
set_option linter.unusedSimpArgs false
/-- bytes lie there -/
def In (w : World) (p : Option Addr) (l : List UInt8) : Prop := ∀ i (h : i < l.length), ∃ b o, p = some ⟨b, o, none⟩ ∧ w.cell? ⟨b, o + i, none⟩ = some (.int .u8 (l[i].toNat : Int))
theorem In.below {w w' : World} {p : Option Addr} {l : List UInt8} (h : In w p l) (hb : Below w.heap.size w w') : In w' p l := by
  intro i hi
  obtain ⟨b, o, e, c⟩ := h i hi
  exact ⟨b, o, e, (hb.cell (p := ⟨b, o + i, none⟩) (lt_of_cell c)).trans c⟩
theorem In.byt {w w' : World} {p : Option Addr} {l : List UInt8} (h : In w p l) (hb : Below w.heap.size w w') {R : Nat} (hR : w.heap.size ≤ R) : Byt w' R p l := by
  intro i hi
  obtain ⟨b, o, e, c⟩ := h i hi
  have hl := lt_of_cell c
  exact ⟨b, o, e, by omega, (hb.cell (p := ⟨b, o + i, none⟩) hl).trans c⟩
theorem Below.of_grown {w w' : World} {R B : Nat} (hg : w.grownBy w' (some R)) (hB : B ≤ R) (hs : B ≤ w.heap.size) : Below B w w' := ⟨hg.os, hg.tape, hg.output, hg.size, fun k hk => hg.block k (by omega) (by simp; omega)⟩
def IntIs (w : World) (l : List UInt8) (e : Ending) (w' : World) : Prop := Below w.heap.size w w' ∧ match num l with
  | .bad E => e = .returned (.tuple #[.int .i64 0, .int .i64 0, .int .i64 E]) ∧ E ≠ 0
  | .ok n k => e = .returned (.tuple #[.int .i64 n, .int .i64 k, .int .i64 0])
theorem Rdr.new (w : World) (p : Option Addr) (n c : Nat) : Rdr (w.alloc (.cells #[.slice p n c, .int .i64 0, .int .i64 0] 84)) w.heap.size (.slice p n c) 0 0 := by
  refine ⟨?_, ?_, ?_, ?_, ?_⟩ <;> simp [go_sem]
theorem int_any (p : Option Addr) (c : Nat) (l : List UInt8) (w : World) (h : In w p l) (hc : l.length ≤ c) (hm : c ≤ maxLen) : Calls Tryd.prog 15 #[.slice p l.length c] w (IntIs w l) := by
  have hb0 : Below w.heap.size w (w.alloc (.cells #[.slice p l.length c, .int .i64 0, .int .i64 0] 84)) := (Below.refl _ _).alloc (Nat.le_refl _) _
  have hL : Lies (w.alloc (.cells #[.slice p l.length c, .int .i64 0, .int .i64 0] 84)) w.heap.size p c l 0 0 := ⟨Rdr.new w p l.length c, h.byt hb0 (Nat.le_refl _), Nat.zero_le _, hc, hm⟩
  have HL := Lib.hid hL
  have HB0 := Lib.hid hb0
  obtain ⟨w0, hw0⟩ : ∃ x, x = w.alloc (.cells #[.slice p l.length c, .int .i64 0, .int .i64 0] 84) := ⟨_, rfl⟩
  rw [← hw0] at HL HB0
  have HW := Lib.hid hw0
  clear h hL hb0 hw0
  go_enter Tryd.func15, Tryd.ntmps15
  go_upto_region 2 with fail
  rw [← HW.out]
  go_wp2_with fail
  refine (num_any w.heap.size p c l 0 0 w0 HL.out.rd HL.out.by_ HL.out.le HL.out.cp HL.out.mx).mono ?_
  rintro e w1 ⟨n, a', f', rfl, hi64, haf, hca⟩
  have HCA := Lib.hid hca
  have HB1 : Hid (Below w.heap.size w w1) := HB0.out.trans (Below.of_grown haf.g (Nat.le_refl _) HB0.out.size)
  obtain ⟨c0, c1, c2, z1, z2⟩ := haf.r
  clear hca haf
  by_cases hf : f' = 0
  · have df : (f' != 0) = false := by simpa using hf
    have HF := Lib.hid hf
    clear hf
    go_wp2
    go_quiet (fail)
    go_wp2
    first | go_ret3 | skip
    refine ⟨HB1.out.trans ⟨rfl, rfl, rfl, Nat.le_refl _, fun _ _ => rfl⟩, ?_⟩
    rcases HCA.out with ⟨h, _⟩ | ⟨_, h⟩
    · exact absurd rfl h
    · cases hr : num (l.drop 0) with
      | bad E => rw [hr] at h; exact absurd (h.1.symm.trans HF.out) h.2
      | ok v k =>
        rw [hr] at h
        obtain ⟨_, h2, rfl⟩ := h
        rw [List.drop_zero] at hr
        rw [hr]
        simp only
        rw [h2, Nat.zero_add]
        rfl
  · have df : (f' != 0) = true := by simpa using hf
    have HF := Lib.hid hf
    clear hf
    go_wp2
    go_quiet (fail)
    go_wp2
    first | go_ret3 | skip
    refine ⟨HB1.out.trans ⟨rfl, rfl, rfl, Nat.le_refl _, fun _ _ => rfl⟩, ?_⟩
    rcases HCA.out with ⟨h, _⟩ | ⟨_, h⟩
    · exact absurd rfl h
    · cases hr : num (l.drop 0) with
      | bad E =>
        rw [hr] at h
        rw [List.drop_zero] at hr
        rw [hr]
        exact ⟨by rw [h.1]; rfl, h.2⟩
      | ok v k =>
        rw [hr] at h
        exact absurd h.1 HF.out
end Go.Proofs.YtlinpkmfjkcoiaaDoor
