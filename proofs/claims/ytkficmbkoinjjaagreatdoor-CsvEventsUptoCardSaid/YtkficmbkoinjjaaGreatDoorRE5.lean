/- Contracts of the document's own answer's nibble and guessed. -/
import Derived.WalkKit
import Derived.WalkSpells
import Derived.WalkLawsBesides
import Derived.Lib.Hide
import Derived.LoopN
import Derived.LoopTactic
import Derived.Test.YtkficmbkoinjjaaGreatDoorRP2
import Derived.Test.YtkficmbkoinjjaaGreatDoorRE3
namespace Go.Proofs.YtkficmbkoinjjaaGreatDoor.V
open Go Go.RowKit
set_option maxHeartbeats 1000000
set_option linter.unusedVariables false
set_option linter.unusedSimpArgs false
theorem nib_hex {k c : Nat} (h : k < 16) (e : hexd k = (c : Int)) : nib c = k := by
  unfold hexd at e
  unfold nib
  split at e
  · rw [if_pos (by omega)]; omega
  · rw [if_neg (by omega), if_pos (by omega)]; omega
theorem nib_none {c : Nat} (h : ∀ m : Nat, m < 16 → hexd m ≠ (c : Int)) : nib c = 0 := by
  unfold nib
  split
  · exfalso
    refine h (c - 48) (by omega) ?_
    unfold hexd
    rw [if_pos (by omega)]
    omega
  · split
    · exfalso
      refine h (c - 87) (by omega) ?_
      unfold hexd
      rw [if_neg (by omega)]
      omega
    · rfl
theorem nibble_r (c : Nat) (hc : c < 256) (w : World) : Calls Tryz.prog 75 #[.int .u8 c] w fun e w' => e = .returned (.int .i64 (nib c)) ∧ w' = w := by
  go_enter Tryz.func75, Tryz.ntmps75
  go_wp2
  go_loopw [3] (fun i wr => ∃ k : Nat, k ≤ 16 ∧ i = .int .i64 k ∧ (∀ m : Nat, m < k → hexd m ≠ (c : Int)) ∧ wr = w) (fun i _ => 16 - (intOf i).toNat)
  case atStart => exact ⟨0, by omega, rfl, fun m hm => absurd hm (Nat.not_lt_zero _), rfl⟩
  case round =>
    obtain ⟨k, hk, rfl, hno, rfl⟩ := hrel
    have HNO := Lib.hid hno
    clear hno
    by_cases hlt : k < 16
    · by_cases he : hexd k = (c : Int)
      · have hq : (hexd k == (c : Int)) = true := by simp [he]
        have HR : Hid (nib c = k) := nib_hex hlt he
        clear he
        go_wp2_with (go_at_call 76; refine (hex_r _ (by omega) (by omega) _).mono ?_; rintro e w' ⟨rfl, hw⟩; obtain rfl := hw.symm)
        go_ret
        exact ⟨by rw [HR.out]; rfl, by first | rfl | trivial⟩
      · have hq : (hexd k == (c : Int)) = false := by simp [he]
        have HE := Lib.hid he
        clear he
        go_wp2_with (go_at_call 76; refine (hex_r _ (by omega) (by omega) _).mono ?_; rintro e w' ⟨rfl, hw⟩; obtain rfl := hw.symm)
        go_roundw
        case rel =>
          refine ⟨k + 1, by omega, by go_num, fun m hm => ?_, by first | rfl | trivial⟩
          by_cases hmk : m = k
          · subst hmk
            exact HE.out
          · exact HNO.out m (by omega)
        case measure => simp [intOf]; omega
    · have hkk : k = 16 := by omega
      subst hkk
      go_wp2
      go_ret
      exact ⟨by rw [nib_none HNO.out]; rfl, by first | rfl | trivial⟩
theorem gval_pos {l : List UInt8} (h : l.head? ≠ some 45) : wrap64 (gnum l) = gval l := by
  have h1 := gnum_lt l
  unfold gval wrap64
  rw [if_neg h]
  simp only []
  split <;> omega
theorem gval_neg {l : List UInt8} (h : l.head? = some 45) : wrap64 (IntKind.u64.wrap (0 - (gnum l : Int))) = gval l := by
  have h1 := gnum_lt l
  have h2 : IntKind.u64.wrap (0 - (gnum l : Int)) = (((18446744073709551616 - gnum l) % 18446744073709551616 : Nat) : Int) := by
    show (0 - (gnum l : Int)) % 18446744073709551616 = _
    omega
  rw [h2]
  unfold gval wrap64
  rw [if_pos h]
  generalize (18446744073709551616 - gnum l) % 18446744073709551616 = x at *
  have h3 : x < 18446744073709551616 := by
    have := h2
    have h4 : IntKind.u64.wrap (0 - (gnum l : Int)) = (0 - (gnum l : Int)) % 18446744073709551616 := rfl
    omega
  simp only []
  split <;> omega
theorem guessed_r (t : ByteArray) (ht : t.size ≤ 1026) (w : World) : Calls Tryz.prog 57 #[.string t] w fun e w' => e = .returned (.agg #[.int .i64 1, .int .i64 (gval t.data.toList), .string ⟨#[]⟩, .bool false]) ∧ Below w.heap.size w w' := by
  go_enter Tryz.func57, Tryz.ntmps57
  go_wp2
  go_loopw [3, 4] (fun n i wr => ∃ k : Nat, k ≤ t.size ∧ i = .int .i64 k ∧ n = .int .u64 (gnum (t.data.toList.take k)) ∧ wr = w.alloc (Obj.cells #[.int .i64 0, .int .i64 0, .string ⟨#[]⟩, .bool false] 57)) (fun _ i _ => t.size - (intOf i).toNat)
  case atStart => exact ⟨0, Nat.zero_le _, rfl, rfl, rfl⟩
  case round =>
    obtain ⟨k, hk, rfl, rfl, rfl⟩ := hrel
    by_cases hlt : k < t.size
    · have HS : Hid (gnum (t.data.toList.take (k + 1)) = gstep (gnum (t.data.toList.take k)) t[k]) := by show _ = _; rw [take_snoc t k hlt, gnum_snoc]
      have ha := gnum_lt (t.data.toList.take k)
      obtain ⟨a, hea⟩ : ∃ a, a = gnum (t.data.toList.take k) := ⟨_, rfl⟩
      rw [← hea] at HS ha ⊢
      have HA := Lib.hid hea
      clear hea
      by_cases h1 : 48 ≤ t[k].toNat
      · by_cases h2 : t[k].toNat ≤ 57
        · have HG : Hid (gstep a t[k] = (a * 10 + (t[k].toNat - 48)) % 18446744073709551616) := by show _ = _; unfold gstep; rw [if_pos ⟨h1, h2⟩]
          have d1 : decide (48 ≤ (t[k].toNat : Int)) = true := by simp; omega
          have d2 : decide ((t[k].toNat : Int) ≤ 57) = true := by simp; omega
          go_wp2
          go_roundw
          case rel =>
            refine ⟨k + 1, by omega, by go_num, ?_, by first | rfl | trivial⟩
            rw [HS.out, HG.out]
            have hw : ∀ x, IntKind.u64.wrap x = x % 18446744073709551616 := fun _ => rfl
            rw [hw, hw]
            congr 1
            omega
          case measure => simp [intOf]; omega
        · have HG : Hid (gstep a t[k] = a) := by show _ = _; unfold gstep; rw [if_neg (by omega)]
          have d1 : decide (48 ≤ (t[k].toNat : Int)) = true := by simp; omega
          have d2 : decide ((t[k].toNat : Int) ≤ 57) = false := by simp; omega
          go_wp2
          go_roundw
          case rel => exact ⟨k + 1, by omega, by go_num, by rw [HS.out, HG.out], by first | rfl | trivial⟩
          case measure => simp [intOf]; omega
      · have HG : Hid (gstep a t[k] = a) := by show _ = _; unfold gstep; rw [if_neg (by omega)]
        have d1 : decide (48 ≤ (t[k].toNat : Int)) = false := by simp; omega
        go_wp2
        go_roundw
        case rel => exact ⟨k + 1, by omega, by go_num, by rw [HS.out, HG.out], by first | rfl | trivial⟩
        case measure => simp [intOf]; omega
    · have hkk : k = t.size := by omega
      have htk : t.data.toList.take k = t.data.toList := List.take_of_length_le (by simp; omega)
      rw [htk]
      have ha := gnum_lt t.data.toList
      by_cases h0 : 0 < t.size
      · have hh : t.data.toList.head? = some t[0] := by
          rw [List.head?_eq_getElem?, List.getElem?_eq_getElem (by simpa using h0)]
          rfl
        by_cases h45 : t[0] = 45
        · have HV : Hid (wrap64 (IntKind.u64.wrap (0 - (gnum t.data.toList : Int))) = gval t.data.toList) := gval_neg (by rw [hh, h45])
          have b0 : ((t[0].toNat : Int) == 45) = true := by rw [h45]; rfl
          clear hh h45
          obtain ⟨a, hea⟩ : ∃ a, a = gnum t.data.toList := ⟨_, rfl⟩
          rw [← hea] at HV ha ⊢
          clear hea htk
          go_wp2
          refine bodyPost_ret (v := .agg #[.int .i64 1, .int .i64 (wrap64 (IntKind.u64.wrap (0 - (a : Int)))), .string ⟨#[]⟩, .bool false]) (by simp [results, Tryz.results57, go_sem]) rfl ?_
          exact ⟨by rw [HV.out], by repeat (first | exact Below.refl _ _ | apply Below.drew | refine Below.setCell ?_ (by show w.heap.size ≤ w.heap.size; omega) _ | refine Below.alloc ?_ (by first | omega | (simp [World.setCell]; done) | (simp [World.setCell]; omega)) _)⟩
        · have HV : Hid (wrap64 (gnum t.data.toList) = gval t.data.toList) := gval_pos (by rw [hh]; simpa using h45)
          have b0 : ((t[0].toNat : Int) == 45) = false := by
            have : t[0].toNat ≠ 45 := fun e => h45 (UInt8.toNat_inj.1 (by rw [e]; rfl))
            simp; omega
          clear hh h45
          obtain ⟨a, hea⟩ : ∃ a, a = gnum t.data.toList := ⟨_, rfl⟩
          rw [← hea] at HV ha ⊢
          clear hea htk
          go_wp2
          refine bodyPost_ret (v := .agg #[.int .i64 1, .int .i64 (wrap64 a), .string ⟨#[]⟩, .bool false]) (by simp [results, Tryz.results57, go_sem]) rfl ?_
          exact ⟨by rw [HV.out], by repeat (first | exact Below.refl _ _ | apply Below.drew | refine Below.setCell ?_ (by show w.heap.size ≤ w.heap.size; omega) _ | refine Below.alloc ?_ (by first | omega | (simp [World.setCell]; done) | (simp [World.setCell]; omega)) _)⟩
      · have HV : Hid (wrap64 (gnum t.data.toList) = gval t.data.toList) := gval_pos (by
          have : t.data.toList = [] := List.eq_nil_of_length_eq_zero (by have hl : t.data.toList.length = t.size := by simp
                                                                         omega)
          rw [this]; simp)
        obtain ⟨a, hea⟩ : ∃ a, a = gnum t.data.toList := ⟨_, rfl⟩
        rw [← hea] at HV ha ⊢
        clear hea htk
        go_wp2
        refine bodyPost_ret (v := .agg #[.int .i64 1, .int .i64 (wrap64 a), .string ⟨#[]⟩, .bool false]) (by simp [results, Tryz.results57, go_sem]) rfl ?_
        exact ⟨by rw [HV.out], by repeat (first | exact Below.refl _ _ | apply Below.drew | refine Below.setCell ?_ (by show w.heap.size ≤ w.heap.size; omega) _ | refine Below.alloc ?_ (by first | omega | (simp [World.setCell]; done) | (simp [World.setCell]; omega)) _)⟩
end Go.Proofs.YtkficmbkoinjjaaGreatDoor.V
