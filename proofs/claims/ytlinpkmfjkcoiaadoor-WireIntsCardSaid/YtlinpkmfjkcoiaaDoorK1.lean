/- The walk of the law WireInts. -/
import Derived.Test.YtlinpkmfjkcoiaaDoorV2
import Derived.Deep.CutBlock
import Derived.Deep.DeepCutAuto
import Derived.Deep.CutRange
namespace Go.Proofs.YtlinpkmfjkcoiaaDoor.lawInts
open Go Go.ChangeShapes Go.WideShapes Go.ChangeAt Go.RowKit
set_option maxHeartbeats 4000000
set_option linter.unusedVariables false
set_option linter.unusedSimpArgs false
attribute [local go_sem ↓] run_front
theorem int_is (l : List UInt8) : ∃ a1 a2 a3 : Int, ∀ w e w', IntIs w l e w' → e = .returned (.tuple #[.int .i64 a1, .int .i64 a2, .int .i64 a3]) ∧ Below w.heap.size w w' := by
  cases h : num l with
  | bad E =>
    refine ⟨0, 0, E, fun w e w' ⟨hb, hi⟩ => ?_⟩
    rw [h] at hi
    exact ⟨hi.1, hb⟩
  | ok n k =>
    refine ⟨n, k, 0, fun w e w' ⟨hb, hi⟩ => ?_⟩
    rw [h] at hi
    exact ⟨hi, hb⟩
theorem room_take (l : List UInt8) : (room66 l).take l.length = l := by unfold room66; rw [List.take_left]
set_option maxRecDepth 100000 in
theorem walk (p1 : Option Addr) (n1 c1 : Nat) (hn1 : n1 ≤ maxLen) (p2 : Option Addr) (n2 c2 : Nat) (hn2 : n2 ≤ maxLen) (W : World) (hK : Kw W) (hN : Nums W p1 n1) (hR : Raws W p2 n2) :
    Calls Tryd.prog 6 #[.slice p1 n1 c1, .slice p2 n2 c2] W fun e w' => e = .returned (.bool true) ∧ Below W.heap.size W w' := by
  have HK := Lib.hid hK
  have HN := Lib.hid hN
  have HR := Lib.hid hR
  unfold maxLen at hn1 hn2
  have HP : Hid (∀ wx x, I64 x → Calls Tryd.prog 14 #[.int .i64 x] wx fun e w' => ∃ q d, e = .returned (.slice q (put x).length d) ∧ In w' q (put x) ∧ Below wx.heap.size wx w') := fun wx x hx => (putInt_any x hx wx).mono fun e w' ⟨q, d, he, ho, hw⟩ => ⟨q, d, he, ho.inn.1, hw.below (Out.nil wx wx.heap.size) (Nat.le_refl _)⟩
  have HQ : Hid (∀ wx x, I64 x → Calls Tryd.prog 23 #[.int .i64 x] wx fun e w' => ∃ q d, e = .returned (.slice q (put x).length d) ∧ In w' q (put x) ∧ Below wx.heap.size wx w') := fun wx x hx => (refPut_any x hx wx).mono fun e w' ⟨q, d, he, ho, hw⟩ => ⟨q, d, he, ho.inn.1, hw.below (Out.nil wx wx.heap.size) (Nat.le_refl _)⟩
  clear hK hN hR
  go_enter Tryd.func6, Tryd.ntmps6
  go_wp2_with fail
  refine (begun_any W HK.out).mono ?_
  rintro e w1 ⟨rfl, hb1⟩
  have HB1 := Lib.hid hb1
  clear hb1
  go_wp2
  go_loopw [5] (fun i wr => ∃ k : Nat, k ≤ n1 ∧ i = .int .i64 k ∧ Below W.heap.size W wr) (fun i _ => n1 - (intOf i).toNat)
  case atStart => exact ⟨0, Nat.zero_le _, rfl, HB1.out⟩
  case round =>
    obtain ⟨k, hk, rfl, hb⟩ := hrel
    have HB := Lib.hid hb
    clear hb
    by_cases hlt : k < n1
    · obtain ⟨b, o, x, rfl, hx, c0⟩ := (HN.out.below HB.out) k hlt
      have HX := Lib.hid hx
      have hPX := HP.out wr x hx
      have HL : Hid ((put x).length ≤ maxLen) := by have := put_len hx; show _ ≤ _; unfold maxLen; omega
      obtain ⟨L, hL⟩ : ∃ L, L = put x := ⟨_, rfl⟩
      have HQX : Hid (∀ wx, Calls Tryd.prog 23 #[.int .i64 x] wx fun e w' => ∃ q d, e = .returned (.slice q L.length d) ∧ In w' q L ∧ Below wx.heap.size wx w') := fun wx => by rw [hL]; exact HQ.out wx x HX.out
      rw [← hL] at hPX HL
      have hbl := lt_of_cell c0
      clear hx hL
      go_wp2_with fail
      refine hPX.mono ?_
      rintro e w2 ⟨q, d, rfl, hin, hb2⟩
      have d0 := (hb2.cell (p := ⟨b, o + k, none⟩) (by exact hbl)).trans c0
      have HB2 : Hid (Below W.heap.size W w2) := HB.out.trans (hb2.mono HB.out.size)
      have HIN := Lib.hid hin
      clear c0 hb2 hin hPX
      go_wp2_with fail
      refine (HQX.out w2).mono ?_
      rintro e w3 ⟨q3, d3, rfl, hin3, hb3⟩
      have HB3 : Hid (Below W.heap.size W w3) := HB2.out.trans (hb3.mono HB2.out.size)
      have HIN3 := Lib.hid hin3
      have HIN' := Lib.hid (HIN.out.below hb3)
      clear d0 hb3 hin3
      go_wp2_with fail
      refine (same_true L q q3 d d3 w3 HIN'.out HIN3.out HL.out).mono ?_
      rintro e w4 ⟨rfl, hb4⟩
      have HB4 : Hid (Below W.heap.size W w4) := HB3.out.trans (hb4.mono HB3.out.size)
      clear hb4
      go_wp2
      go_roundw
      case rel => exact ⟨k + 1, by omega, by go_num, HB4.out⟩
      case measure => simp [intOf]; omega
    · obtain ⟨wo, rfl⟩ : ∃ wo : World, wo = wr := ⟨_, rfl⟩
      go_wp2
      go_loopw [7] (fun i wr => ∃ k : Nat, k ≤ n2 ∧ i = .int .i64 k ∧ Below W.heap.size W wr) (fun i _ => n2 - (intOf i).toNat)
      case atStart => exact ⟨0, Nat.zero_le _, rfl, HB.out⟩
      case round =>
        obtain ⟨j, hj, rfl, hb⟩ := hrel
        have HBJ := Lib.hid hb
        clear hb
        by_cases hjt : j < n2
        · obtain ⟨b, o, q, d, l, rfl, c0, hin, hl, hld, hdm⟩ := (HR.out.below HBJ.out) j hjt
          have HIN := Lib.hid hin
          have hro := roomy_any l q d wr hin hl
          have HRO : Hid (∀ wx, In wx q l → Calls Tryd.prog 24 #[.slice q l.length d] wx fun e w' => e = .returned (.slice (some ⟨wx.heap.size, 0, none⟩) (l.length + 66) (l.length + 66)) ∧ In w' (some ⟨wx.heap.size, 0, none⟩) (room66 l) ∧ Below wx.heap.size wx w') := fun wx h => roomy_any l q d wx h hl
          obtain ⟨a1, a2, a3, hI⟩ := int_is l
          have HI1 : Hid (∀ wx p c, In wx p l → l.length ≤ c → c ≤ maxLen → Calls Tryd.prog 15 #[.slice p l.length c] wx fun e w' => e = .returned (.tuple #[.int .i64 a1, .int .i64 a2, .int .i64 a3]) ∧ Below wx.heap.size wx w') := fun wx p c h1 h2 h3 => (int_any p c l wx h1 h2 h3).mono fun e w' h => hI wx e w' h
          have HI2 : Hid (∀ wx p c, In wx p l → l.length ≤ c → c ≤ maxLen → Calls Tryd.prog 25 #[.slice p l.length c] wx fun e w' => e = .returned (.tuple #[.int .i64 a1, .int .i64 a2, .int .i64 a3]) ∧ Below wx.heap.size wx w') := fun wx p c h1 h2 h3 => (refInt_any p c l wx h1 h2 h3).mono fun e w' h => hI wx e w' h
          have HSA : Hid (∀ wx p1 p2 c1 c2, In wx p1 (room66 l) → In wx p2 (room66 l) → Calls Tryd.prog 22 #[.slice p1 (l.length + 66) c1, .slice p2 (l.length + 66) c2] wx fun e w' => e = .returned (.bool true) ∧ Below wx.heap.size wx w') := fun wx p1 p2 c1 c2 h1 h2 => by
            have := same_true (room66 l) p1 p2 c1 c2 wx h1 h2 (by rw [room_len]; unfold maxLen; omega)
            rw [room_len] at this
            exact this
          have HTK : Hid (∀ wx p, In wx p (room66 l) → In wx p l) := fun wx p h => by have := In.take h l.length; rw [room_take] at this; exact this
          obtain ⟨m, hm⟩ : ∃ m, m = l.length := ⟨_, rfl⟩
          rw [← hm] at c0 hl hld hro HRO HI1 HI2 HSA
          have hbl := lt_of_cell c0
          have HDM := Lib.hid hdm
          have hm66 : m ≤ m + 66 := by omega
          have HMX : Hid (m + 66 ≤ maxLen) := by show _ ≤ _; unfold maxLen; omega
          clear hI hm hin hdm
          go_wp2_with fail
          refine hro.mono ?_
          rintro e w2 ⟨rfl, hin2, hb2⟩
          obtain ⟨G, hG⟩ : ∃ G, G = wr.heap.size := ⟨_, rfl⟩
          rw [← hG] at hin2 ⊢
          have d0 := (hb2.cell (p := ⟨b, o + j, none⟩) (by exact hbl)).trans c0
          have hbl2 := lt_of_cell d0
          have HB2 : Hid (Below W.heap.size W w2) := HBJ.out.trans (hb2.mono HBJ.out.size)
          have HR2 := Lib.hid hin2
          have HN2 := Lib.hid (HIN.out.below hb2)
          clear c0 hb2 hin2 hro hG
          go_wp2_with fail
          refine (HI1.out w2 (some ⟨G, 0, none⟩) (m + 66) (HTK.out _ _ HR2.out) hm66 HMX.out).mono ?_
          rintro e w3 ⟨rfl, hb3⟩
          have e0 := (hb3.cell (p := ⟨b, o + j, none⟩) (by exact hbl2)).trans d0
          have hbl3 := lt_of_cell e0
          have HB3 : Hid (Below W.heap.size W w3) := HB2.out.trans (hb3.mono HB2.out.size)
          have HR3 := Lib.hid (HR2.out.below hb3)
          have HN3 := Lib.hid (HN2.out.below hb3)
          clear d0 hb3
          go_wp2_with fail
          refine (HI2.out w3 q d HN3.out hld HDM.out).mono ?_
          rintro e w4 ⟨rfl, hb4⟩
          have f0 := (hb4.cell (p := ⟨b, o + j, none⟩) (by exact hbl3)).trans e0
          have hbl4 := lt_of_cell f0
          have HB4 : Hid (Below W.heap.size W w4) := HB3.out.trans (hb4.mono HB3.out.size)
          have HR4 := Lib.hid (HR3.out.below hb4)
          have HN4 := Lib.hid (HN3.out.below hb4)
          clear e0 hb4
          go_wp2_with fail
          refine (HRO.out w4 HN4.out).mono ?_
          rintro e w5 ⟨rfl, hin5, hb5⟩
          obtain ⟨G5, hG5⟩ : ∃ G, G = w4.heap.size := ⟨_, rfl⟩
          rw [← hG5] at hin5 ⊢
          have HB5 : Hid (Below W.heap.size W w5) := HB4.out.trans (hb5.mono HB4.out.size)
          have HR5 := Lib.hid (HR4.out.below hb5)
          have HN5 := Lib.hid hin5
          clear f0 hb5 hin5 hG5
          go_wp2_with fail
          refine (HSA.out w5 _ _ _ _ HR5.out HN5.out).mono ?_
          rintro e w6 ⟨rfl, hb6⟩
          have HB6 : Hid (Below W.heap.size W w6) := HB5.out.trans (hb6.mono HB5.out.size)
          clear hb6
          go_wp2
          go_roundw
          case rel => exact ⟨j + 1, by omega, by go_num, HB6.out⟩
          case measure => simp [intOf]; omega
        · go_wp2
          go_ret
          exact ⟨rfl, HBJ.out⟩
end Go.Proofs.YtlinpkmfjkcoiaaDoor.lawInts
