/- The walk of the law WireBatches. -/
import Derived.Test.YtlinpkmfjkcoiaaDoorW3
import Derived.Test.YtlinpkmfjkcoiaaDoorW6
import Derived.Test.YtlinpkmfjkcoiaaDoorN2
import Derived.Deep.CutBlock
import Derived.Deep.DeepCutAuto
import Derived.Deep.CutRange
namespace Go.Proofs.YtlinpkmfjkcoiaaDoor.lawBatches
open Go Go.ChangeShapes Go.WideShapes Go.ChangeAt Go.RowKit
set_option maxHeartbeats 4000000
set_option linter.unusedVariables false
set_option linter.unusedSimpArgs false
attribute [local go_sem ↓] run_front run_front38
theorem room_take (l : List UInt8) : (room66 l).take l.length = l := by unfold room66; rw [List.take_left]
theorem pack_is (es : List Evt) : ∃ (L : List UInt8) (F : Int), L.length ≤ 1048576 ∧ ∀ w e w', PackIs w es e w' → ∃ q d, e = .returned (.tuple #[.slice q L.length d, .int .i64 F]) ∧ In w' q L ∧ Below w.heap.size w w' := by
  by_cases h : packF es = 0 ∧ (packW es).length ≤ 1048576
  · refine ⟨packW es, 0, h.2, fun w e w' ⟨hb, hi⟩ => ?_⟩
    rcases hi with ⟨_, _, _, q, d, he, ho⟩ | ⟨h0, _⟩
    · exact ⟨q, d, he, ho.inn.1, hb⟩
    · exact absurd h.1 h0
  · refine ⟨[], packF es, by simp, fun w e w' ⟨hb, hi⟩ => ?_⟩
    rcases hi with ⟨h0, _, hk, _⟩ | ⟨_, he⟩
    · exact absurd ⟨h0, hk⟩ h
    · exact ⟨none, 0, he, fun i hi => absurd hi (Nat.not_lt_zero _), hb⟩
theorem unp_is (l : List UInt8) : ∃ (es : List Evt) (F : Int), es.length ≤ 1024 ∧ (∀ e ∈ es, e.vals.length ≤ maxLen) ∧ ∀ w e w', UnpIs w l e w' → ∃ q d, e = .returned (.tuple #[.slice q es.length d, .int .i64 F]) ∧ EvtRow w' q es ∧ Below w.heap.size w w' := by
  cases h : unpackR l with
  | bad E =>
    refine ⟨[], E, by simp, by simp, fun w e w' ⟨hb, hi⟩ => ?_⟩
    rw [h] at hi
    exact ⟨none, 0, hi.1, fun i hi => absurd hi (Nat.not_lt_zero _), hb⟩
  | ok es k =>
    obtain ⟨_, _, hob⟩ := pack_unpack h
    refine ⟨es, 0, hob.1, fun e he => (by have := (hob.2 e he).2.2.1; unfold maxLen; omega), fun w e w' ⟨hb, hi⟩ => ?_⟩
    rw [h] at hi
    obtain ⟨rows, q, d, hrw, he, hown⟩ := hi
    have hrow := hown.row
    rw [hrw] at hrow
    have hlen : rows.length = es.length := by rw [← hrw, List.length_map]
    rw [hlen] at he
    exact ⟨q, d, he, hrow, hb⟩
set_option maxRecDepth 100000 in
theorem walk (p1 : Option Addr) (n1 c1 : Nat) (hn1 : n1 ≤ maxLen) (p2 : Option Addr) (n2 c2 : Nat) (hn2 : n2 ≤ maxLen) (W : World) (hK : Kw W) (hE : Bats W p1 n1) (hR : Raws W p2 n2) :
    Calls Tryd.prog 9 #[.slice p1 n1 c1, .slice p2 n2 c2] W fun e w' => e = .returned (.bool true) ∧ Below W.heap.size W w' := by
  have HK := Lib.hid hK
  have HE := Lib.hid hE
  have HR := Lib.hid hR
  unfold maxLen at hn1 hn2
  clear hK hE hR
  go_enter Tryd.func9, Tryd.ntmps9
  go_wp2_with fail
  refine (begun_any W HK.out).mono ?_
  rintro e w1 ⟨rfl, hb1⟩
  have HB1 := Lib.hid hb1
  clear hb1
  go_wp2
  go_loopw [5] (fun i wr => ∃ k : Nat, k ≤ n1 ∧ i = .int .i64 k ∧ Below W.heap.size W wr) (fun i _ => n1 - (intOf i).toNat)
  case atStart => exact ⟨0, Nat.zero_le _, rfl, HB1.out⟩
  case round =>
    obtain ⟨k, hk, rfl, hb⟩ := hrel
    have HB := Lib.hid hb
    clear hb
    by_cases hlt : k < n1
    · obtain ⟨b, o, q, es, d, rfl, c0, hrow, hin, h48⟩ := (HE.out.below HB.out) k hlt
      have HROW := Lib.hid hrow
      have HIN := Lib.hid hin
      obtain ⟨L, F, hL, hPI⟩ := pack_is es
      have HLM : Hid (L.length ≤ maxLen) := by show _ ≤ _; unfold maxLen; omega
      have hem : es.length ≤ maxLen := by unfold maxLen; omega
      have HGV := Lib.hid (given_any es q d wr hrow hin h48)
      have HPK : Hid (∀ wx p c, Kw wx → EvtRow wx p es → Calls Tryd.prog 19 #[.slice p es.length c] wx fun e w' => ∃ q d, e = .returned (.tuple #[.slice q L.length d, .int .i64 F]) ∧ In w' q L ∧ Below wx.heap.size wx w') := fun wx p c h1 h2 => (pack_any es p c wx h1 h2 hin hem).mono fun e w' h => hPI wx e w' h
      have HRP : Hid (∀ wx p c, EvtRow wx p es → Calls Tryd.prog 36 #[.slice p es.length c] wx fun e w' => ∃ q d, e = .returned (.tuple #[.slice q L.length d, .int .i64 F]) ∧ In w' q L ∧ Below wx.heap.size wx w') := fun wx p c h2 => (refPack_any es p c wx h2 hin hem).mono fun e w' h => hPI wx e w' h
      have HSD : Hid (∀ wx G R rc p c, Stn wx G R es → EvtRow wx p es → Calls Tryd.prog 33 #[.slice (some ⟨G, 0, none⟩) (es.length + 34) (es.length + 34), .slice R es.length rc, .slice p es.length c] wx fun e w' => e = .returned (.bool true) ∧ Below wx.heap.size wx w') := fun wx G R rc p c h1 h2 => stands_any es G R p rc c wx h1 h2 hin h48
      have HGS : Hid (∀ w0 wx G R rc xs rl, Giv w0 wx G es.length es (es.length + 34) (es.length + 34) xs rl (.slice R es.length rc) → Stn wx G R es) := fun w0 wx G R rc xs rl h => h.stood
      obtain ⟨n, hn⟩ : ∃ n, n = es.length := ⟨_, rfl⟩
      rw [← hn] at c0 HGV HPK HRP HSD HGS
      have hbl := lt_of_cell c0
      have hn34 : n ≤ n + 34 := by omega
      clear hPI hn hrow hin h48 hem hL
      go_wp2_with fail
      refine HGV.out.mono ?_
      rintro e w2 ⟨G, R, rc, xs, rl, rfl, hgv, hgG⟩
      have hb2 : Below wr.heap.size wr w2 := hgv.blw.mono hgG
      have HB2 : Hid (Below W.heap.size W w2) := HB.out.trans (hb2.mono HB.out.size)
      have HS2 := Lib.hid (HGS.out _ _ _ _ _ _ _ hgv)
      have HR2 := Lib.hid (HROW.out.below hb2)
      have d0 := (hb2.cell (p := ⟨b, o + k, none⟩) (by exact hbl)).trans c0
      have hbl2 := lt_of_cell d0
      clear c0 hgv hgG hb2 HGV
      go_wp2_with fail
      refine (HPK.out w2 _ _ (HK.out.below HB2.out) HS2.out.row).mono ?_
      rintro e w3 ⟨q3, d3, rfl, hin3, hb3⟩
      have HB3 : Hid (Below W.heap.size W w3) := HB2.out.trans (hb3.mono HB2.out.size)
      have HS3 := Lib.hid (HS2.out.below hb3)
      have HR3 := Lib.hid (HR2.out.below hb3)
      have HI3 := Lib.hid hin3
      have e0 := (hb3.cell (p := ⟨b, o + k, none⟩) (by exact hbl2)).trans d0
      have hbl3 := lt_of_cell e0
      clear d0 hin3 hb3
      go_wp2_with fail
      refine (HRP.out w3 _ _ HR3.out).mono ?_
      rintro e w4 ⟨q4, d4, rfl, hin4, hb4⟩
      have HB4 : Hid (Below W.heap.size W w4) := HB3.out.trans (hb4.mono HB3.out.size)
      have HS4 := Lib.hid (HS3.out.below hb4)
      have HR4 := Lib.hid (HR3.out.below hb4)
      have HI3' := Lib.hid (HI3.out.below hb4)
      have HI4 := Lib.hid hin4
      have f0 := (hb4.cell (p := ⟨b, o + k, none⟩) (by exact hbl3)).trans e0
      have hbl4 := lt_of_cell f0
      clear e0 hin4 hb4
      go_wp2_with fail
      refine (same_true L q3 q4 d3 d4 w4 HI3'.out HI4.out HLM.out).mono ?_
      rintro e w5 ⟨rfl, hb5⟩
      have HB5 : Hid (Below W.heap.size W w5) := HB4.out.trans (hb5.mono HB4.out.size)
      have HS5 := Lib.hid (HS4.out.below hb5)
      have HR5 := Lib.hid (HR4.out.below hb5)
      have g0 := (hb5.cell (p := ⟨b, o + k, none⟩) (by exact hbl4)).trans f0
      clear f0 hb5
      go_wp2_with fail
      refine (HSD.out w5 _ _ _ _ _ HS5.out HR5.out).mono ?_
      rintro e w6 ⟨rfl, hb6⟩
      have HB6 : Hid (Below W.heap.size W w6) := HB5.out.trans (hb6.mono HB5.out.size)
      clear g0 hb6
      go_wp2
      go_roundw
      case rel => exact ⟨k + 1, by omega, by go_num, HB6.out⟩
      case measure => simp [intOf]; omega
    · obtain ⟨wo, rfl⟩ : ∃ wo : World, wo = wr := ⟨_, rfl⟩
      go_wp2
      go_loopw [12] (fun i wr => ∃ k : Nat, k ≤ n2 ∧ i = .int .i64 k ∧ Below W.heap.size W wr) (fun i _ => n2 - (intOf i).toNat)
      case atStart => exact ⟨0, Nat.zero_le _, rfl, HB.out⟩
      case round =>
        obtain ⟨j, hj, rfl, hb⟩ := hrel
        have HBJ := Lib.hid hb
        clear hb
        by_cases hjt : j < n2
        · obtain ⟨b, o, q, d, l, rfl, c0, hin, hl, hld, hdm⟩ := (HR.out.below HBJ.out) j hjt
          have HIN := Lib.hid hin
          have hro := roomy_any l q d wr hin hl
          have HRO : Hid (∀ wx, In wx q l → Calls Tryd.prog 24 #[.slice q l.length d] wx fun e w' => e = .returned (.slice (some ⟨wx.heap.size, 0, none⟩) (l.length + 66) (l.length + 66)) ∧ In w' (some ⟨wx.heap.size, 0, none⟩) (room66 l) ∧ Below wx.heap.size wx w') := fun wx h => roomy_any l q d wx h hl
          obtain ⟨es, F, hes, hvm, hI⟩ := unp_is l
          have HI1 : Hid (∀ wx p c, Kw wx → In wx p l → l.length ≤ c → c ≤ maxLen → Calls Tryd.prog 20 #[.slice p l.length c] wx fun e w' => ∃ q d, e = .returned (.tuple #[.slice q es.length d, .int .i64 F]) ∧ EvtRow w' q es ∧ Below wx.heap.size wx w') := fun wx p c h0 h1 h2 h3 => (unpack_any p c l wx h1 h2 h3 h0).mono fun e w' h => hI wx e w' h
          have HI2 : Hid (∀ wx p c, In wx p l → l.length ≤ c → c ≤ maxLen → Calls Tryd.prog 37 #[.slice p l.length c] wx fun e w' => ∃ q d, e = .returned (.tuple #[.slice q es.length d, .int .i64 F]) ∧ EvtRow w' q es ∧ Below wx.heap.size wx w') := fun wx p c h1 h2 h3 => (refUnpack_any p c l wx h1 h2 h3).mono fun e w' h => hI wx e w' h
          have HEV : Hid (∀ wx p1 p2 c1 c2, EvtRow wx p1 es → EvtRow wx p2 es → Calls Tryd.prog 21 #[.slice p1 es.length c1, .slice p2 es.length c2] wx fun e w' => e = .returned (.bool true) ∧ Below wx.heap.size wx w') := fun wx p1 p2 c1 c2 h1 h2 => lists_true es p1 p2 c1 c2 wx h1 h2 (by unfold maxLen; omega) hvm
          have HSA : Hid (∀ wx p1 p2 c1 c2, In wx p1 (room66 l) → In wx p2 (room66 l) → Calls Tryd.prog 22 #[.slice p1 (l.length + 66) c1, .slice p2 (l.length + 66) c2] wx fun e w' => e = .returned (.bool true) ∧ Below wx.heap.size wx w') := fun wx p1 p2 c1 c2 h1 h2 => by
            have := same_true (room66 l) p1 p2 c1 c2 wx h1 h2 (by rw [room_len]; unfold maxLen; omega)
            rw [room_len] at this
            exact this
          have HTK : Hid (∀ wx p, In wx p (room66 l) → In wx p l) := fun wx p h => by have := In.take h l.length; rw [room_take] at this; exact this
          obtain ⟨m, hm⟩ : ∃ m, m = l.length := ⟨_, rfl⟩
          obtain ⟨n, hn⟩ : ∃ n, n = es.length := ⟨_, rfl⟩
          rw [← hm] at c0 hl hld hro HRO HI1 HI2 HSA
          rw [← hn] at HI1 HI2 HEV
          have hbl := lt_of_cell c0
          have HDM := Lib.hid hdm
          have hm66 : m ≤ m + 66 := by omega
          have HMX : Hid (m + 66 ≤ maxLen) := by show _ ≤ _; unfold maxLen; omega
          clear hI hm hn hes hvm hin hdm
          go_wp2_with fail
          refine hro.mono ?_
          rintro e w2 ⟨rfl, hin2, hb2⟩
          obtain ⟨G, hG⟩ : ∃ G, G = wr.heap.size := ⟨_, rfl⟩
          rw [← hG] at hin2 ⊢
          have d0 := (hb2.cell (p := ⟨b, o + j, none⟩) (by exact hbl)).trans c0
          have hbl2 := lt_of_cell d0
          have HB2 : Hid (Below W.heap.size W w2) := HBJ.out.trans (hb2.mono HBJ.out.size)
          have HR2 := Lib.hid hin2
          have HN2 := Lib.hid (HIN.out.below hb2)
          clear c0 hb2 hin2 hro hG
          go_wp2_with fail
          refine (HI1.out w2 (some ⟨G, 0, none⟩) (m + 66) (HK.out.below HB2.out) (HTK.out _ _ HR2.out) hm66 HMX.out).mono ?_
          rintro e w3 ⟨q3, d3, rfl, hvr3, hb3⟩
          have e0 := (hb3.cell (p := ⟨b, o + j, none⟩) (by exact hbl2)).trans d0
          have hbl3 := lt_of_cell e0
          have HB3 : Hid (Below W.heap.size W w3) := HB2.out.trans (hb3.mono HB2.out.size)
          have HR3 := Lib.hid (HR2.out.below hb3)
          have HN3 := Lib.hid (HN2.out.below hb3)
          have HV3 := Lib.hid hvr3
          clear d0 hb3 hvr3
          go_wp2_with fail
          refine (HI2.out w3 q d HN3.out hld HDM.out).mono ?_
          rintro e w5 ⟨q5, d5, rfl, hvr5, hb5⟩
          have g0 := (hb5.cell (p := ⟨b, o + j, none⟩) (by exact hbl3)).trans e0
          have hbl5 := lt_of_cell g0
          have HB5 : Hid (Below W.heap.size W w5) := HB3.out.trans (hb5.mono HB3.out.size)
          have HR5 := Lib.hid (HR3.out.below hb5)
          have HN5 := Lib.hid (HN3.out.below hb5)
          have HV5 := Lib.hid (HV3.out.below hb5)
          have HY5 := Lib.hid hvr5
          clear e0 hb5 hvr5
          go_wp2_with fail
          refine (HEV.out w5 _ _ _ _ HV5.out HY5.out).mono ?_
          rintro e w7 ⟨rfl, hb7⟩
          have i0 := (hb7.cell (p := ⟨b, o + j, none⟩) (by exact hbl5)).trans g0
          have HB7 : Hid (Below W.heap.size W w7) := HB5.out.trans (hb7.mono HB5.out.size)
          have HR7 := Lib.hid (HR5.out.below hb7)
          have HN7 := Lib.hid (HN5.out.below hb7)
          clear g0 hb7
          go_wp2_with fail
          refine (HRO.out w7 HN7.out).mono ?_
          rintro e w8 ⟨rfl, hin8, hb8⟩
          obtain ⟨G8, hG8⟩ : ∃ G, G = w7.heap.size := ⟨_, rfl⟩
          rw [← hG8] at hin8 ⊢
          have HB8 : Hid (Below W.heap.size W w8) := HB7.out.trans (hb8.mono HB7.out.size)
          have HR8 := Lib.hid (HR7.out.below hb8)
          have HN8 := Lib.hid hin8
          clear i0 hb8 hin8 hG8
          go_wp2_with fail
          refine (HSA.out w8 _ _ _ _ HR8.out HN8.out).mono ?_
          rintro e w9 ⟨rfl, hb9⟩
          have HB9 : Hid (Below W.heap.size W w9) := HB8.out.trans (hb9.mono HB8.out.size)
          clear hb9
          go_wp2
          go_roundw
          case rel => exact ⟨j + 1, by omega, by go_num, HB9.out⟩
          case measure => simp [intOf]; omega
        · go_wp2
          go_ret
          exact ⟨rfl, HBJ.out⟩
end Go.Proofs.YtlinpkmfjkcoiaaDoor.lawBatches
