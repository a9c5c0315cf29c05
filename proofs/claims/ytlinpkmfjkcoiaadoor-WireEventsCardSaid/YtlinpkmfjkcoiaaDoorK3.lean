/- The walk of the law WireEvents. -/
import Derived.Test.YtlinpkmfjkcoiaaDoorV4
import Derived.Test.YtlinpkmfjkcoiaaDoorT8
import Derived.Test.YtlinpkmfjkcoiaaDoorT12
import Derived.Deep.CutBlock
import Derived.Deep.DeepCutAuto
import Derived.Deep.CutRange
namespace Go.Proofs.YtlinpkmfjkcoiaaDoor.lawEvents
open Go Go.ChangeShapes Go.WideShapes Go.ChangeAt Go.RowKit
set_option maxHeartbeats 4000000
set_option linter.unusedVariables false
set_option linter.unusedSimpArgs false
attribute [local go_sem ↓] run_front
theorem room_take (l : List UInt8) : (room66 l).take l.length = l := by unfold room66; rw [List.take_left]
theorem enc_is (ty : ByteArray) (tm : Int) (vl : List V4) : ∃ (L : List UInt8) (F : Int), L.length ≤ 5000 ∧ ∀ w e w', EncIs w ⟨ty, tm, vl⟩ e w' → ∃ q d, e = .returned (.tuple #[.slice q L.length d, .int .i64 F]) ∧ In w' q L ∧ Below w.heap.size w w' := by
  by_cases h : encF ty.toList tm vl = 0 ∧ OkE ⟨ty, tm, vl⟩
  · refine ⟨evtW ⟨ty, tm, vl⟩, 0, evtW_len h.2, fun w e w' ⟨hb, hi⟩ => ?_⟩
    rcases hi with ⟨_, _, q, d, he, ho⟩ | ⟨h0, _⟩
    · exact ⟨q, d, he, ho.inn.1, hb⟩
    · exact absurd h.1 h0
  · refine ⟨[], encF ty.toList tm vl, by simp, fun w e w' ⟨hb, hi⟩ => ?_⟩
    rcases hi with ⟨h0, hk, _⟩ | ⟨_, he⟩
    · exact absurd ⟨h0, hk⟩ h
    · exact ⟨none, 0, he, fun i hi => absurd hi (Nat.not_lt_zero _), hb⟩
theorem dec_is (l : List UInt8) : ∃ (ty : ByteArray) (tm : Int) (vl : List V4) (a F : Int), vl.length ≤ 16 ∧ ∀ w e w', DecIs w l e w' → ∃ q d, e = .returned (.tuple #[.agg #[.string ty, .int .i64 tm, .slice q vl.length d], .int .i64 a, .int .i64 F]) ∧ ValRow w' q vl ∧ Below w.heap.size w w' := by
  cases h : evtR l with
  | bad E =>
    refine ⟨⟨#[]⟩, 0, [], 0, E, by simp, fun w e w' ⟨hb, hi⟩ => ?_⟩
    rw [h] at hi
    exact ⟨none, 0, hi.1, fun i hi => absurd hi (Nat.not_lt_zero _), hb⟩
  | ok ev k =>
    obtain ⟨hok, _, _⟩ := evtR_law.back l ev k h
    refine ⟨ev.ty, ev.tm, ev.vals, k, 0, hok.2.2.1, fun w e w' ⟨hb, hi⟩ => ?_⟩
    rw [h] at hi
    obtain ⟨v, he, hn⟩ := hi
    obtain ⟨p, c, rfl⟩ := own_form hn
    exact ⟨p, c, he, valrow_of_own hn, hb⟩
set_option maxRecDepth 100000 in
theorem walk (p1 : Option Addr) (n1 c1 : Nat) (hn1 : n1 ≤ maxLen) (p2 : Option Addr) (n2 c2 : Nat) (hn2 : n2 ≤ maxLen) (W : World) (hK : Kw W) (hE : Evts W p1 n1) (hR : Raws W p2 n2) :
    Calls Tryd.prog 7 #[.slice p1 n1 c1, .slice p2 n2 c2] W fun e w' => e = .returned (.bool true) ∧ Below W.heap.size W w' := by
  have HK := Lib.hid hK
  have HE := Lib.hid hE
  have HR := Lib.hid hR
  unfold maxLen at hn1 hn2
  clear hK hE hR
  go_enter Tryd.func7, Tryd.ntmps7
  go_wp2_with fail
  refine (begun_any W HK.out).mono ?_
  rintro e w1 ⟨rfl, hb1⟩
  have HB1 := Lib.hid hb1
  clear hb1
  go_wp2
  go_loopw [5] (fun i wr => ∃ k : Nat, k ≤ n1 ∧ i = .int .i64 k ∧ Below W.heap.size W wr) (fun i _ => n1 - (intOf i).toNat)
  case atStart => exact ⟨0, Nat.zero_le _, rfl, HB1.out⟩
  case round =>
    obtain ⟨k, hk, rfl, hb⟩ := hrel
    have HB := Lib.hid hb
    clear hb
    by_cases hlt : k < n1
    · obtain ⟨b, o, ty, tm, q, vl, d, rfl, c0, c1', c2', h64, h40, hvr, hi4⟩ := (HE.out.below HB.out) k hlt
      have HVR := Lib.hid hvr
      obtain ⟨L, F, hL, hEI⟩ := enc_is ty tm vl
      have hvm : vl.length ≤ maxLen := by unfold maxLen; omega
      have HEI := Lib.hid hEI
      have HLM : Hid (L.length ≤ maxLen) := by show _ ≤ _; unfold maxLen; omega
      have HWI := Lib.hid (wide_any ty tm vl q d wr hvr h40)
      have HEN : Hid (∀ wx G, Kw wx → ValRow wx (some ⟨G, 0, none⟩) (wideL vl) → Calls Tryd.prog 16 #[.agg #[.string ty, .int .i64 tm, .slice (some ⟨G, 0, none⟩) vl.length (vl.length + 34)]] wx fun e w' => ∃ q d, e = .returned (.tuple #[.slice q L.length d, .int .i64 F]) ∧ In w' q L ∧ Below wx.heap.size wx w') := fun wx G h1 h2 => (encode_any ty tm vl _ _ wx h1 h2.front hvm hi4).mono fun e w' h => hEI wx e w' h
      have HRE : Hid (∀ wx, ValRow wx q vl → Calls Tryd.prog 27 #[.agg #[.string ty, .int .i64 tm, .slice q vl.length d]] wx fun e w' => ∃ q d, e = .returned (.tuple #[.slice q L.length d, .int .i64 F]) ∧ In w' q L ∧ Below wx.heap.size wx w') := fun wx h2 => (refEncode_any ty tm h64 vl _ _ wx h2 hvm hi4).mono fun e w' h => hEI wx e w' h
      have HTI : Hid (∀ wx G, ValRow wx q vl → ValRow wx (some ⟨G, 0, none⟩) (wideL vl) → Calls Tryd.prog 28 #[.slice (some ⟨G, 0, none⟩) (vl.length + 34) (vl.length + 34), .agg #[.string ty, .int .i64 tm, .slice q vl.length d]] wx fun e w' => e = .returned (.bool true) ∧ Below wx.heap.size wx w') := fun wx G h1 h2 => tight_any ty tm vl q (some ⟨G, 0, none⟩) d (vl.length + 34) (by omega) (by unfold maxLen; omega) wx h1 h2 h40
      obtain ⟨n, hn⟩ : ∃ n, n = vl.length := ⟨_, rfl⟩
      rw [← hn] at c2' HWI HEN HRE HTI
      have hbl := lt_of_cell c0
      clear hEI hn hvr hi4 h40 h64 hvm hL
      go_wp2_with fail
      refine HWI.out.mono ?_
      rintro e w2 ⟨G, rfl, hvw, hb2⟩
      have d0 := (hb2.cell (p := ⟨b, o + k * 3, none⟩) (by exact hbl)).trans c0
      have d1 := (hb2.cell (p := ⟨b, o + k * 3 + 1, none⟩) (by exact hbl)).trans c1'
      have d2 := (hb2.cell (p := ⟨b, o + k * 3 + 2, none⟩) (by exact hbl)).trans c2'
      have hbl2 := lt_of_cell d0
      have HB2 : Hid (Below W.heap.size W w2) := HB.out.trans (hb2.mono HB.out.size)
      have HV2 := Lib.hid (HVR.out.below hb2)
      have HW2 := Lib.hid hvw
      clear c0 c1' c2' hb2 hvw
      go_upto_region 7 with fail
      have hal : Below w2.heap.size w2 (w2.alloc (.cells #[.string ty, .int .i64 tm, .slice (some ⟨G, 0, none⟩) n (n + 34)] 24)) := (Below.refl _ _).alloc (Nat.le_refl _) _
      have T3 := Lib.hid (Three.new w2 ty tm (some ⟨G, 0, none⟩) n (n + 34))
      obtain ⟨w3, hw3⟩ : ∃ x, x = w2.alloc (.cells #[.string ty, .int .i64 tm, .slice (some ⟨G, 0, none⟩) n (n + 34)] 24) := ⟨_, rfl⟩
      rw [← hw3] at hal T3 ⊢
      obtain ⟨X, hX⟩ : ∃ X, X = w2.heap.size := ⟨_, rfl⟩
      rw [← hX] at T3 ⊢
      have HB3 : Hid (Below W.heap.size W w3) := HB2.out.trans (hal.mono HB2.out.size)
      have HV3 := Lib.hid (HV2.out.below hal)
      have HW3 := Lib.hid (HW2.out.below hal)
      have e0 := (hal.cell (p := ⟨b, o + k * 3, none⟩) (by exact hbl2)).trans d0
      have e1 := (hal.cell (p := ⟨b, o + k * 3 + 1, none⟩) (by exact hbl2)).trans d1
      have e2 := (hal.cell (p := ⟨b, o + k * 3 + 2, none⟩) (by exact hbl2)).trans d2
      have hbl3 := lt_of_cell e0
      clear d0 d1 d2 hal hw3 hX
      obtain ⟨y0, y1, y2, _, _, _⟩ := T3.out
      go_wp2_with fail
      refine (HEN.out w3 G (HK.out.below HB3.out) HW3.out).mono ?_
      rintro e w4 ⟨q4, d4, rfl, hin4, hb4⟩
      have f0 := (hb4.cell (p := ⟨b, o + k * 3, none⟩) (by exact hbl3)).trans e0
      have f1 := (hb4.cell (p := ⟨b, o + k * 3 + 1, none⟩) (by exact hbl3)).trans e1
      have f2 := (hb4.cell (p := ⟨b, o + k * 3 + 2, none⟩) (by exact hbl3)).trans e2
      have hbl4 := lt_of_cell f0
      have HB4 : Hid (Below W.heap.size W w4) := HB3.out.trans (hb4.mono HB3.out.size)
      have HV4 := Lib.hid (HV3.out.below hb4)
      have HW4 := Lib.hid (HW3.out.below hb4)
      have HI4 := Lib.hid hin4
      clear e0 e1 e2 y0 y1 y2 hb4 hin4
      go_wp2_with fail
      refine (HRE.out w4 HV4.out).mono ?_
      rintro e w5 ⟨q5, d5, rfl, hin5, hb5⟩
      have g0 := (hb5.cell (p := ⟨b, o + k * 3, none⟩) (by exact hbl4)).trans f0
      have g1 := (hb5.cell (p := ⟨b, o + k * 3 + 1, none⟩) (by exact hbl4)).trans f1
      have g2 := (hb5.cell (p := ⟨b, o + k * 3 + 2, none⟩) (by exact hbl4)).trans f2
      have hbl5 := lt_of_cell g0
      have HB5 : Hid (Below W.heap.size W w5) := HB4.out.trans (hb5.mono HB4.out.size)
      have HV5 := Lib.hid (HV4.out.below hb5)
      have HW5 := Lib.hid (HW4.out.below hb5)
      have HI5 := Lib.hid hin5
      have HI4' := Lib.hid (HI4.out.below hb5)
      clear f0 f1 f2 hb5 hin5
      go_wp2_with fail
      refine (same_true L q4 q5 d4 d5 w5 HI4'.out HI5.out HLM.out).mono ?_
      rintro e w6 ⟨rfl, hb6⟩
      have i0 := (hb6.cell (p := ⟨b, o + k * 3, none⟩) (by exact hbl5)).trans g0
      have i1 := (hb6.cell (p := ⟨b, o + k * 3 + 1, none⟩) (by exact hbl5)).trans g1
      have i2 := (hb6.cell (p := ⟨b, o + k * 3 + 2, none⟩) (by exact hbl5)).trans g2
      have HB6 : Hid (Below W.heap.size W w6) := HB5.out.trans (hb6.mono HB5.out.size)
      have HV6 := Lib.hid (HV5.out.below hb6)
      have HW6 := Lib.hid (HW5.out.below hb6)
      clear g0 g1 g2 hb6
      go_wp2_with fail
      refine (HTI.out w6 G HV6.out HW6.out).mono ?_
      rintro e w7 ⟨rfl, hb7⟩
      have HB7 : Hid (Below W.heap.size W w7) := HB6.out.trans (hb7.mono HB6.out.size)
      clear i0 i1 i2 hb7
      go_wp2
      go_roundw
      case rel => exact ⟨k + 1, by omega, by go_num, HB7.out⟩
      case measure => simp [intOf]; omega
    · obtain ⟨wo, rfl⟩ : ∃ wo : World, wo = wr := ⟨_, rfl⟩
      go_wp2
      go_loopw [12] (fun i wr => ∃ k : Nat, k ≤ n2 ∧ i = .int .i64 k ∧ Below W.heap.size W wr) (fun i _ => n2 - (intOf i).toNat)
      case atStart => exact ⟨0, Nat.zero_le _, rfl, HB.out⟩
      case round =>
        obtain ⟨j, hj, rfl, hb⟩ := hrel
        have HBJ := Lib.hid hb
        clear hb
        by_cases hjt : j < n2
        · obtain ⟨b, o, q, d, l, rfl, c0, hin, hl, hld, hdm⟩ := (HR.out.below HBJ.out) j hjt
          have HIN := Lib.hid hin
          have hro := roomy_any l q d wr hin hl
          have HRO : Hid (∀ wx, In wx q l → Calls Tryd.prog 24 #[.slice q l.length d] wx fun e w' => e = .returned (.slice (some ⟨wx.heap.size, 0, none⟩) (l.length + 66) (l.length + 66)) ∧ In w' (some ⟨wx.heap.size, 0, none⟩) (room66 l) ∧ Below wx.heap.size wx w') := fun wx h => roomy_any l q d wx h hl
          obtain ⟨ty, tm, vl, a, F, hv16, hI⟩ := dec_is l
          have HI1 : Hid (∀ wx p c, Kw wx → In wx p l → l.length ≤ c → c ≤ maxLen → Calls Tryd.prog 17 #[.slice p l.length c] wx fun e w' => ∃ q d, e = .returned (.tuple #[.agg #[.string ty, .int .i64 tm, .slice q vl.length d], .int .i64 a, .int .i64 F]) ∧ ValRow w' q vl ∧ Below wx.heap.size wx w') := fun wx p c h0 h1 h2 h3 => (decode_any p c l wx h1 h2 h3 h0).mono fun e w' h => hI wx e w' h
          have HI2 : Hid (∀ wx p c, In wx p l → l.length ≤ c → c ≤ maxLen → Calls Tryd.prog 29 #[.slice p l.length c] wx fun e w' => ∃ q d, e = .returned (.tuple #[.agg #[.string ty, .int .i64 tm, .slice q vl.length d], .int .i64 a, .int .i64 F]) ∧ ValRow w' q vl ∧ Below wx.heap.size wx w') := fun wx p c h1 h2 h3 => (refDecode_any p c l wx h1 h2 h3).mono fun e w' h => hI wx e w' h
          have HEV : Hid (∀ wx p1 p2 c1 c2, ValRow wx p1 vl → ValRow wx p2 vl → Calls Tryd.prog 18 #[.agg #[.string ty, .int .i64 tm, .slice p1 vl.length c1], .agg #[.string ty, .int .i64 tm, .slice p2 vl.length c2]] wx fun e w' => e = .returned (.bool true) ∧ Below wx.heap.size wx w') := fun wx p1 p2 c1 c2 h1 h2 => events_true ty tm vl p1 p2 c1 c2 wx h1 h2 (by unfold maxLen; omega)
          have HSA : Hid (∀ wx p1 p2 c1 c2, In wx p1 (room66 l) → In wx p2 (room66 l) → Calls Tryd.prog 22 #[.slice p1 (l.length + 66) c1, .slice p2 (l.length + 66) c2] wx fun e w' => e = .returned (.bool true) ∧ Below wx.heap.size wx w') := fun wx p1 p2 c1 c2 h1 h2 => by
            have := same_true (room66 l) p1 p2 c1 c2 wx h1 h2 (by rw [room_len]; unfold maxLen; omega)
            rw [room_len] at this
            exact this
          have HTK : Hid (∀ wx p, In wx p (room66 l) → In wx p l) := fun wx p h => by have := In.take h l.length; rw [room_take] at this; exact this
          obtain ⟨m, hm⟩ : ∃ m, m = l.length := ⟨_, rfl⟩
          obtain ⟨n, hn⟩ : ∃ n, n = vl.length := ⟨_, rfl⟩
          rw [← hm] at c0 hl hld hro HRO HI1 HI2 HSA
          rw [← hn] at HI1 HI2 HEV
          have hbl := lt_of_cell c0
          have HDM := Lib.hid hdm
          have hm66 : m ≤ m + 66 := by omega
          have HMX : Hid (m + 66 ≤ maxLen) := by show _ ≤ _; unfold maxLen; omega
          clear hI hm hn hv16 hin hdm
          go_wp2_with fail
          refine hro.mono ?_
          rintro e w2 ⟨rfl, hin2, hb2⟩
          obtain ⟨G, hG⟩ : ∃ G, G = wr.heap.size := ⟨_, rfl⟩
          rw [← hG] at hin2 ⊢
          have d0 := (hb2.cell (p := ⟨b, o + j, none⟩) (by exact hbl)).trans c0
          have hbl2 := lt_of_cell d0
          have HB2 : Hid (Below W.heap.size W w2) := HBJ.out.trans (hb2.mono HBJ.out.size)
          have HR2 := Lib.hid hin2
          have HN2 := Lib.hid (HIN.out.below hb2)
          clear c0 hb2 hin2 hro hG
          go_wp2_with fail
          refine (HI1.out w2 (some ⟨G, 0, none⟩) (m + 66) (HK.out.below HB2.out) (HTK.out _ _ HR2.out) hm66 HMX.out).mono ?_
          rintro e w3 ⟨q3, d3, rfl, hvr3, hb3⟩
          have e0 := (hb3.cell (p := ⟨b, o + j, none⟩) (by exact hbl2)).trans d0
          have hbl3 := lt_of_cell e0
          have HB3 : Hid (Below W.heap.size W w3) := HB2.out.trans (hb3.mono HB2.out.size)
          have HR3 := Lib.hid (HR2.out.below hb3)
          have HN3 := Lib.hid (HN2.out.below hb3)
          have HV3 := Lib.hid hvr3
          clear d0 hb3 hvr3
          go_upto_region 16 with fail
          have hal : Below w3.heap.size w3 (w3.alloc (.cells #[.string ty, .int .i64 tm, .slice q3 n d3] 24)) := (Below.refl _ _).alloc (Nat.le_refl _) _
          have TX := Lib.hid (Three.new w3 ty tm q3 n d3)
          obtain ⟨w4, hw4⟩ : ∃ x, x = w3.alloc (.cells #[.string ty, .int .i64 tm, .slice q3 n d3] 24) := ⟨_, rfl⟩
          rw [← hw4] at hal TX ⊢
          obtain ⟨X, hX⟩ : ∃ X, X = w3.heap.size := ⟨_, rfl⟩
          rw [← hX] at TX ⊢
          have f0 := (hal.cell (p := ⟨b, o + j, none⟩) (by exact hbl3)).trans e0
          have hbl4 := lt_of_cell f0
          have HB4 : Hid (Below W.heap.size W w4) := HB3.out.trans (hal.mono HB3.out.size)
          have HR4 := Lib.hid (HR3.out.below hal)
          have HN4 := Lib.hid (HN3.out.below hal)
          have HV4 := Lib.hid (HV3.out.below hal)
          clear e0 hal hw4 hX
          go_wp2_with fail
          refine (HI2.out w4 q d HN4.out hld HDM.out).mono ?_
          rintro e w5 ⟨q5, d5, rfl, hvr5, hb5⟩
          have g0 := (hb5.cell (p := ⟨b, o + j, none⟩) (by exact hbl4)).trans f0
          have hbl5 := lt_of_cell g0
          have HB5 : Hid (Below W.heap.size W w5) := HB4.out.trans (hb5.mono HB4.out.size)
          have HR5 := Lib.hid (HR4.out.below hb5)
          have HN5 := Lib.hid (HN4.out.below hb5)
          have HV5 := Lib.hid (HV4.out.below hb5)
          have TX5 := Lib.hid (TX.out.below hb5)
          have HY5 := Lib.hid hvr5
          clear f0 hb5 hvr5
          go_upto_region 17 with fail
          have hal : Below w5.heap.size w5 (w5.alloc (.cells #[.string ty, .int .i64 tm, .slice q5 n d5] 24)) := (Below.refl _ _).alloc (Nat.le_refl _) _
          have TY := Lib.hid (Three.new w5 ty tm q5 n d5)
          obtain ⟨w6, hw6⟩ : ∃ x, x = w5.alloc (.cells #[.string ty, .int .i64 tm, .slice q5 n d5] 24) := ⟨_, rfl⟩
          rw [← hw6] at hal TY ⊢
          obtain ⟨Y, hY⟩ : ∃ X, X = w5.heap.size := ⟨_, rfl⟩
          rw [← hY] at TY ⊢
          have h0 := (hal.cell (p := ⟨b, o + j, none⟩) (by exact hbl5)).trans g0
          have hbl6 := lt_of_cell h0
          have HB6 : Hid (Below W.heap.size W w6) := HB5.out.trans (hal.mono HB5.out.size)
          have HR6 := Lib.hid (HR5.out.below hal)
          have HN6 := Lib.hid (HN5.out.below hal)
          have HV6 := Lib.hid (HV5.out.below hal)
          have HY6 := Lib.hid (HY5.out.below hal)
          have TX6 := Lib.hid (TX5.out.below hal)
          clear g0 hal hw6 hY
          obtain ⟨x0, x1, x2, _, _, _⟩ := TX6.out
          obtain ⟨y0, y1, y2, _, _, _⟩ := TY.out
          go_wp2_with fail
          refine (HEV.out w6 _ _ _ _ HV6.out HY6.out).mono ?_
          rintro e w7 ⟨rfl, hb7⟩
          have i0 := (hb7.cell (p := ⟨b, o + j, none⟩) (by exact hbl6)).trans h0
          have HB7 : Hid (Below W.heap.size W w7) := HB6.out.trans (hb7.mono HB6.out.size)
          have HR7 := Lib.hid (HR6.out.below hb7)
          have HN7 := Lib.hid (HN6.out.below hb7)
          clear h0 hb7 x0 x1 x2 y0 y1 y2
          go_wp2_with fail
          refine (HRO.out w7 HN7.out).mono ?_
          rintro e w8 ⟨rfl, hin8, hb8⟩
          obtain ⟨G8, hG8⟩ : ∃ G, G = w7.heap.size := ⟨_, rfl⟩
          rw [← hG8] at hin8 ⊢
          have HB8 : Hid (Below W.heap.size W w8) := HB7.out.trans (hb8.mono HB7.out.size)
          have HR8 := Lib.hid (HR7.out.below hb8)
          have HN8 := Lib.hid hin8
          clear i0 hb8 hin8 hG8
          go_wp2_with fail
          refine (HSA.out w8 _ _ _ _ HR8.out HN8.out).mono ?_
          rintro e w9 ⟨rfl, hb9⟩
          have HB9 : Hid (Below W.heap.size W w9) := HB8.out.trans (hb9.mono HB8.out.size)
          clear hb9
          go_wp2
          go_roundw
          case rel => exact ⟨j + 1, by omega, by go_num, HB9.out⟩
          case measure => simp [intOf]; omega
        · go_wp2
          go_ret
          exact ⟨rfl, HBJ.out⟩
end Go.Proofs.YtlinpkmfjkcoiaaDoor.lawEvents
