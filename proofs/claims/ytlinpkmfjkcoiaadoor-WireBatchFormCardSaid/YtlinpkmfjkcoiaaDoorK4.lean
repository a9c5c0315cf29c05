/- The walk of the law WireBatchForm. -/
import Derived.Test.YtlinpkmfjkcoiaaDoorU3
import Derived.Test.YtlinpkmfjkcoiaaDoorN2
import Derived.Deep.CutBlock
namespace Go.Proofs.YtlinpkmfjkcoiaaDoor.lawBatchForm
open Go Go.ChangeShapes Go.WideShapes Go.ChangeAt Go.RowKit
set_option maxHeartbeats 4000000
set_option linter.unusedVariables false
set_option linter.unusedSimpArgs false
set_option maxRecDepth 100000 in
theorem walk (p1 : Option Addr) (n1 c1 : Nat) (hn1 : n1 ≤ maxLen) (rp : Option Addr) (rc : Nat) (rl : List UInt8) (hrc : rl.length ≤ rc) (hrm : rc ≤ maxLen) (W : World) (hK : Kw W) (hE : Evts W p1 n1) (hR : In W rp rl) :
    Calls Tryd.prog 4 #[.slice p1 n1 c1, .slice rp rl.length rc] W fun e w' => e = .returned (.bool true) ∧ Below W.heap.size W w' := by
  obtain ⟨es, hes, hrow, hin⟩ := hE.row
  subst hes
  have HK := Lib.hid hK
  have HR := Lib.hid hR
  have HROW := Lib.hid hrow
  have HIN := Lib.hid hin
  obtain ⟨n, hn⟩ : ∃ n, n = es.length := ⟨_, rfl⟩
  have HN := Lib.hid hn
  have HPK : Hid (∀ wx, Below W.heap.size W wx → Calls Tryd.prog 19 #[.slice p1 n c1] wx (PackIs wx es)) := by show ∀ _, _; rw [hn]; exact fun wx hx => pack_any es p1 c1 wx (HK.out.below hx) (HROW.out.below hx) hin hn1
  have HLI : Hid (∀ wx q d, Below W.heap.size W wx → EvtRow wx q es → Calls Tryd.prog 21 #[.slice q n d, .slice p1 n c1] wx fun e w' => e = .returned (.bool true) ∧ Below wx.heap.size wx w') := by show ∀ _, _; rw [hn]; exact fun wx q d hx h => lists_true es q p1 d c1 wx h (HROW.out.below hx) hn1 (fun e he => by have := (hin e he).2.1; unfold maxLen; omega)
  rw [← hn]
  clear hK hE hR hrow hin hn hn1
  go_enter Tryd.func4, Tryd.ntmps4
  go_wp2_with fail
  refine (begun_any W HK.out).mono ?_
  rintro e w1 ⟨rfl, hb1⟩
  have HB1 := Lib.hid hb1
  clear hb1
  go_wp2_with fail
  refine (HPK.out w1 HB1.out).mono ?_
  rintro e w2 ⟨hb2, h2⟩
  have HB2 : Hid (Below W.heap.size W w2) := HB1.out.trans (hb2.mono HB1.out.size)
  clear hb2
  rcases h2 with ⟨hp, hok, hlen, q2, d2, rfl, ho2⟩ | ⟨hp, rfl⟩
  · have hi2 := ho2.inn
    have hU := unpack_any q2 d2 (packW es) w2 hi2.1 hi2.2.1 hi2.2.2 (HK.out.below HB2.out)
    have HUP := Lib.hid (unpack_pack hp (fun e he => (HIN.out e he).2.2))
    obtain ⟨ln, hln⟩ : ∃ ln, ln = (packW es).length := ⟨_, rfl⟩
    rw [← hln] at hU ⊢
    clear hp hok hlen ho2 hi2 hln
    go_wp2_with fail
    refine hU.mono ?_
    rintro e w3 ⟨hb3, h3⟩
    rw [HUP.out] at h3
    obtain ⟨rows, q3, d3, hrw, rfl, hown3⟩ := h3
    have HB3 : Hid (Below W.heap.size W w3) := HB2.out.trans (hb3.mono HB2.out.size)
    have hrow3 := hown3.row
    rw [hrw] at hrow3
    have hlen3 : rows.length = n := by rw [HN.out, ← hrw, List.length_map]
    rw [hlen3]
    have hL := HLI.out w3 q3 d3 HB3.out hrow3
    clear hU hb3 hrw hown3 hrow3 hlen3
    go_wp2_with fail
    refine hL.mono ?_
    rintro e wz ⟨rfl, hb4⟩
    have HBZ : Hid (Below W.heap.size W wz) := HB3.out.trans (hb4.mono HB3.out.size)
    clear hL hb4
    have HBX : Hid (Below W.heap.size W wz) := HBZ.out
    cases hun : unpackR rl with
    | bad E =>
      have hU := (unpack_any rp rc rl wz (HR.out.below HBX.out) hrc hrm (HK.out.below HBX.out))
      have HUN := Lib.hid hun
      obtain ⟨rn, hrn⟩ : ∃ rn, rn = rl.length := ⟨_, rfl⟩
      rw [← hrn] at hU
      first | rw [← hrn] | skip
      clear hun hrn
      go_wp2_with fail
      refine hU.mono ?_
      rintro e w8 ⟨hb8, h8⟩
      rw [HUN.out] at h8
      obtain ⟨rfl, hE⟩ := h8
      have dE : (E != 0) = true := by simpa using hE
      have HB8 : Hid (Below W.heap.size W w8) := HBX.out.trans (hb8.mono HBX.out.size)
      clear hU hE hb8
      go_wp2
      go_ret
      exact ⟨rfl, HB8.out⟩
    | ok es2 k2 =>
      have hU := (unpack_any rp rc rl wz (HR.out.below HBX.out) hrc hrm (HK.out.below HBX.out))
      have HUN := Lib.hid hun
      obtain ⟨rn, hrn⟩ : ∃ rn, rn = rl.length := ⟨_, rfl⟩
      have HRN := Lib.hid hrn
      rw [← hrn] at hU
      first | rw [← hrn] | skip
      clear hun hrn
      go_wp2_with fail
      refine hU.mono ?_
      rintro e w8 ⟨hb8, h8⟩
      rw [HUN.out] at h8
      obtain ⟨rows, q8, d8, hrw, rfl, hown8⟩ := h8
      have HB8 : Hid (Below W.heap.size W w8) := HBX.out.trans (hb8.mono HBX.out.size)
      obtain ⟨hp0, hpw, hob⟩ := pack_unpack HUN.out
      have hrow := hown8.row
      rw [hrw] at hrow
      have hlen : rows.length = es2.length := by rw [← hrw, List.length_map]
      have hin2 : ∀ e ∈ es2, InE e := fun e he => by
        obtain ⟨_, h2, h3, h4⟩ := hob.2 e he
        exact ⟨by unfold I64; omega, by omega, fun v hv => (h4 v hv).2⟩
      have hP2 := pack_any es2 q8 d8 w8 (HK.out.below HB8.out) hrow hin2 (by have := hob.1; unfold maxLen; omega)
      rw [← hlen] at hP2
      have HPW := Lib.hid hpw
      have HP0 := Lib.hid hp0
      obtain ⟨ln, hln⟩ : ∃ ln, ln = rows.length := ⟨_, rfl⟩
      rw [← hln] at hP2 ⊢
      clear hU hb8 hrw hown8 hp0 hpw hob hrow hlen hin2 hln
      go_wp2_with fail
      refine hP2.mono ?_
      rintro e w9 ⟨hb9, h9⟩
      have HB9 : Hid (Below W.heap.size W w9) := HB8.out.trans (hb9.mono HB8.out.size)
      rcases h9 with ⟨_, _, _, q9, d9, rfl, ho9⟩ | ⟨h9, _⟩
      · have hi9 := ho9.inn.1
        rw [HPW.out] at hi9
        have hS := same_true rl q9 rp d9 rc w9 hi9 (HR.out.below HB9.out) (Nat.le_trans hrc hrm)
        rw [← show rn = _ from HRN.out] at hS
        rw [HPW.out, ← show rn = _ from HRN.out]
        clear hP2 hb9 ho9 hi9
        go_wp2_with fail
        refine hS.mono ?_
        rintro e w10 ⟨rfl, hb10⟩
        have HB10 : Hid (Below W.heap.size W w10) := HB9.out.trans (hb10.mono HB9.out.size)
        clear hS hb10
        go_wp2
        go_ret
        exact ⟨rfl, HB10.out⟩
      · exact absurd HP0.out h9
  · have dp : (packF es == 0) = false := by simpa using hp
    obtain ⟨F, hF⟩ : ∃ F, F = packF es := ⟨_, rfl⟩
    rw [← hF] at dp ⊢
    obtain ⟨wz, hwz⟩ : ∃ wz, wz = w2 := ⟨_, rfl⟩
    rw [← hwz] at HB2 ⊢
    have HBZ := Lib.hid HB2.out
    clear hF hp hwz
    have HBX : Hid (Below W.heap.size W wz) := HBZ.out
    cases hun : unpackR rl with
    | bad E =>
      have hU := (unpack_any rp rc rl wz (HR.out.below HBX.out) hrc hrm (HK.out.below HBX.out))
      have HUN := Lib.hid hun
      obtain ⟨rn, hrn⟩ : ∃ rn, rn = rl.length := ⟨_, rfl⟩
      rw [← hrn] at hU
      first | rw [← hrn] | skip
      clear hun hrn
      go_wp2_with fail
      refine hU.mono ?_
      rintro e w8 ⟨hb8, h8⟩
      rw [HUN.out] at h8
      obtain ⟨rfl, hE⟩ := h8
      have dE : (E != 0) = true := by simpa using hE
      have HB8 : Hid (Below W.heap.size W w8) := HBX.out.trans (hb8.mono HBX.out.size)
      clear hU hE hb8
      go_wp2
      go_ret
      exact ⟨rfl, HB8.out⟩
    | ok es2 k2 =>
      have hU := (unpack_any rp rc rl wz (HR.out.below HBX.out) hrc hrm (HK.out.below HBX.out))
      have HUN := Lib.hid hun
      obtain ⟨rn, hrn⟩ : ∃ rn, rn = rl.length := ⟨_, rfl⟩
      have HRN := Lib.hid hrn
      rw [← hrn] at hU
      first | rw [← hrn] | skip
      clear hun hrn
      go_wp2_with fail
      refine hU.mono ?_
      rintro e w8 ⟨hb8, h8⟩
      rw [HUN.out] at h8
      obtain ⟨rows, q8, d8, hrw, rfl, hown8⟩ := h8
      have HB8 : Hid (Below W.heap.size W w8) := HBX.out.trans (hb8.mono HBX.out.size)
      obtain ⟨hp0, hpw, hob⟩ := pack_unpack HUN.out
      have hrow := hown8.row
      rw [hrw] at hrow
      have hlen : rows.length = es2.length := by rw [← hrw, List.length_map]
      have hin2 : ∀ e ∈ es2, InE e := fun e he => by
        obtain ⟨_, h2, h3, h4⟩ := hob.2 e he
        exact ⟨by unfold I64; omega, by omega, fun v hv => (h4 v hv).2⟩
      have hP2 := pack_any es2 q8 d8 w8 (HK.out.below HB8.out) hrow hin2 (by have := hob.1; unfold maxLen; omega)
      rw [← hlen] at hP2
      have HPW := Lib.hid hpw
      have HP0 := Lib.hid hp0
      obtain ⟨ln, hln⟩ : ∃ ln, ln = rows.length := ⟨_, rfl⟩
      rw [← hln] at hP2 ⊢
      clear hU hb8 hrw hown8 hp0 hpw hob hrow hlen hin2 hln
      go_wp2_with fail
      refine hP2.mono ?_
      rintro e w9 ⟨hb9, h9⟩
      have HB9 : Hid (Below W.heap.size W w9) := HB8.out.trans (hb9.mono HB8.out.size)
      rcases h9 with ⟨_, _, _, q9, d9, rfl, ho9⟩ | ⟨h9, _⟩
      · have hi9 := ho9.inn.1
        rw [HPW.out] at hi9
        have hS := same_true rl q9 rp d9 rc w9 hi9 (HR.out.below HB9.out) (Nat.le_trans hrc hrm)
        rw [← show rn = _ from HRN.out] at hS
        rw [HPW.out, ← show rn = _ from HRN.out]
        clear hP2 hb9 ho9 hi9
        go_wp2_with fail
        refine hS.mono ?_
        rintro e w10 ⟨rfl, hb10⟩
        have HB10 : Hid (Below W.heap.size W w10) := HB9.out.trans (hb10.mono HB9.out.size)
        clear hS hb10
        go_wp2
        go_ret
        exact ⟨rfl, HB10.out⟩
      · exact absurd HP0.out h9
end Go.Proofs.YtlinpkmfjkcoiaaDoor.lawBatchForm
