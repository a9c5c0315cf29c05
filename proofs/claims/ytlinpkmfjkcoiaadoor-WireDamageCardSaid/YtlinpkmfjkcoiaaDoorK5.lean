/- The walk of the law WireDamage. -/
import Derived.Test.YtlinpkmfjkcoiaaDoorU3
import Derived.Test.YtlinpkmfjkcoiaaDoorN2
import Derived.Test.YtlinpkmfjkcoiaaDoorM4
import Derived.Test.YtlinpkmfjkcoiaaDoorJ1
import Derived.Deep.CutBlock
import Derived.IntWalk
namespace Go.Proofs.YtlinpkmfjkcoiaaDoor
open Go Go.RowKit
set_option linter.unusedVariables false
set_option linter.unusedSimpArgs false
theorem Out.place {w : World} {B : Nat} {p : Option Addr} {n c : Nat} {l : List UInt8} (h : Out w B (.slice p n c) l) (h0 : 0 < l.length) : ∃ g, p = some ⟨g, 0, none⟩ ∧ B ≤ g ∧ g < w.heap.size ∧ ∀ i, w.frozen? ⟨g, i, none⟩ = false := by
  rcases h.2 with ⟨e, e0⟩ | ⟨g, cap, cur, e, hg, hb, h2, h3, h4, h5⟩
  · omega
  · simp only [Value.slice.injEq] at e
    obtain ⟨rfl, rfl, rfl⟩ := e
    refine ⟨g, rfl, hg, ?_, fun i => by simp [World.frozen?, hb]⟩
    rcases Nat.lt_or_ge g w.heap.size with hlt | hge
    · exact hlt
    · rw [Array.getElem?_eq_none hge] at hb; cases hb
theorem In.set {w : World} {g : Nat} {l : List UInt8} (h : In w (some ⟨g, 0, none⟩) l) {i : Nat} (hi : i < l.length) (x : UInt8) : In (w.setCell ⟨g, i, none⟩ (.int .u8 (x.toNat : Int))) (some ⟨g, 0, none⟩) (l.set i x) := by
  intro j hj
  rw [List.length_set] at hj
  obtain ⟨b, o, e, c⟩ := h j hj
  simp only [Option.some.injEq, Addr.mk.injEq, and_true] at e
  obtain ⟨rfl, rfl⟩ := e
  refine ⟨g, 0, rfl, ?_⟩
  rw [Nat.zero_add] at c ⊢
  rw [List.getElem_set]
  by_cases hij : i = j
  · subst hij
    rw [if_pos rfl]
    simp [go_sem, c]
  · rw [if_neg hij]
    simp [go_sem, c, hij]
end Go.Proofs.YtlinpkmfjkcoiaaDoor
namespace Go.Proofs.YtlinpkmfjkcoiaaDoor.lawDamage
open Go Go.ChangeShapes Go.WideShapes Go.ChangeAt Go.RowKit
set_option maxHeartbeats 4000000
set_option linter.unusedVariables false
set_option linter.unusedSimpArgs false
theorem xor8 (y t : UInt8) : bits .xor .u8 (y.toNat : Int) (t.toNat : Int) = ((y ^^^ t).toNat : Int) := by
  have h : ((y ^^^ t).toNat : Int) < 256 := by have := (y ^^^ t).toNat_lt; omega
  have hy := y.toNat_lt
  have ht := t.toNat_lt
  have e : IntKind.u8.bits = 8 := rfl
  unfold bits
  simp
  rw [UInt8.toNat_xor] at h
  rw [e, Nat.mod_eq_of_lt (by omega), Nat.mod_eq_of_lt (by omega), IntWalk.u8_in _ (by omega)]
set_option maxRecDepth 100000 in
theorem walk (p1 : Option Addr) (n1 c1 : Nat) (hn1 : n1 ≤ maxLen) (at_ : Int) (hat : I64 at_) (turn : UInt8) (W : World) (hK : Kw W) (hE : Evts W p1 n1) :
    Calls Tryd.prog 5 #[.slice p1 n1 c1, .int .i64 at_, .int .u8 turn.toNat] W fun e w' => e = .returned (.bool true) ∧ Below W.heap.size W w' := by
  obtain ⟨i0, hi, hz0, hz1, hz2⟩ := info_parts infoByte
  obtain ⟨es, hes, hrow, hin⟩ := hE.row
  subst hes
  have HK := Lib.hid hK
  have HROW := Lib.hid hrow
  have HIN := Lib.hid hin
  obtain ⟨n, hn⟩ : ∃ n, n = es.length := ⟨_, rfl⟩
  have HN := Lib.hid hn
  have HPK : Hid (∀ wx, Below W.heap.size W wx → Calls Tryd.prog 19 #[.slice p1 n c1] wx (PackIs wx es)) := by show ∀ _, _; rw [hn]; exact fun wx hx => pack_any es p1 c1 wx (HK.out.below hx) (HROW.out.below hx) hin hn1
  have HLI : Hid (∀ wx q d, Below W.heap.size W wx → EvtRow wx q es → Calls Tryd.prog 21 #[.slice q n d, .slice p1 n c1] wx fun e w' => e = .returned (.bool true) ∧ Below wx.heap.size wx w') := by show ∀ _, _; rw [hn]; exact fun wx q d hx h => lists_true es q p1 d c1 wx h (HROW.out.below hx) hn1 (fun e he => by have := (hin e he).2.1; unfold maxLen; omega)
  obtain ⟨h1, h2⟩ := hat
  rw [← hn]
  clear hK hE hrow hin hn hn1
  go_enter Tryd.func5, Tryd.ntmps5
  go_wp2_with fail
  refine (begun_any W HK.out).mono ?_
  rintro e w1 ⟨rfl, hb1⟩
  have HB1 := Lib.hid hb1
  clear hb1
  go_wp2_with fail
  refine (HPK.out w1 HB1.out).mono ?_
  rintro e w2 ⟨hb2, h2⟩
  have HB2 : Hid (Below W.heap.size W w2) := HB1.out.trans (hb2.mono HB1.out.size)
  clear hb2
  rcases h2 with ⟨hp, hok, hlen, q2, d2, rfl, ho2⟩ | ⟨hp, rfl⟩
  · have hi2 := ho2.inn
    have HUP := Lib.hid (unpack_pack hp (fun e he => (HIN.out e he).2.2))
    have HD1 : Hid (∀ (i : Nat) (x y : UInt8), (packW es)[i]? = some y → x ≠ y → unpackR ((packW es).set i x) = .bad 32) := fun i x y hy hx => by
      obtain ⟨h, rfl⟩ := List.getElem?_eq_some_iff.1 hy
      exact damage_one hlen h hx
    have HD2 : Hid (∀ (j : Nat) (x y : UInt8), j + 5 < (packW es).length → (packW es)[j]? = some x → (packW es)[j + 1]? = some y → x ≠ y → unpackR (swapL (packW es) j x y) = .bad 32) := fun j x y h hx hy hne => by
      obtain ⟨_, rfl⟩ := List.getElem?_eq_some_iff.1 hx
      obtain ⟨_, rfl⟩ := List.getElem?_eq_some_iff.1 hy
      exact damage_two hlen h hne
    have hl5 : 5 ≤ (packW es).length := by rw [packW_len]; have := body_pos es; omega
    obtain ⟨b, hb⟩ : ∃ b, b = packW es := ⟨_, rfl⟩
    rw [← hb] at HUP HD1 HD2 hl5 ho2 hi2 hlen ⊢
    obtain ⟨m, hm⟩ : ∃ m, m = b.length := ⟨_, rfl⟩
    have HM := Lib.hid hm
    have HI2 := Lib.hid hi2.1
    have HO2 := Lib.hid ho2
    rw [← hm] at hl5 hlen ⊢
    have d5 : decide ((m : Int) < 5) = false := by simp; omega
    clear hp hok hb hm hi2 ho2
    have HZ2 := Lib.hid HO2.out.nilcap
    have HC1 : Hid (([] : List UInt8).length + b.length ≤ maxLen) := by show _ ≤ _; rw [← show m = _ from HM.out, List.length_nil]; unfold maxLen; omega
    have HC2 : Hid (([] : List UInt8).length + b.length ≤ 140737488355328) := by show _ ≤ _; rw [← show m = _ from HM.out, List.length_nil]; omega
    have HC3 : Hid (m = ([] : List UInt8).length + b.length) := by show _ = _; rw [← show m = _ from HM.out, List.length_nil]; omega
    by_cases hneg : at_ < 0
    · obtain ⟨k, hk⟩ : ∃ k : Nat, -(at_ + 1) = (k : Int) := ⟨(-(at_ + 1)).toNat, by omega⟩
      go_wp2_with (at_builtin; refine wpList_cat rfl _ _ rfl w2.heap.size i0 hi hz0 hz1 hz2 (.slice none 0 0) [] rfl (Out.nil _ _) q2 d2 m b HM.out rfl HI2.out HZ2.out HC1.out HC2.out (Nat.le_refl _) m HC3.out ?_)
      intro p3 c3 w3 hO3 hW3
      have hb3 : Below w2.heap.size w2 w3 := hW3.below (Out.nil _ _) (Nat.le_refl _)
      have hml : m = b.length := HM.out
      obtain ⟨g3, rfl, hg3, hgl3, hfz3⟩ := hO3.place (by omega)
      obtain ⟨hin3, hlc3, hcm3⟩ := hO3.inn
      obtain ⟨i, hie⟩ : ∃ i, i = k % m := ⟨_, rfl⟩
      have him : i < b.length := by rw [← hml, hie]; exact Nat.mod_lt _ (by omega)
      obtain ⟨y, hy⟩ : ∃ y, b[i]? = some y := ⟨b[i], List.getElem?_eq_getElem him⟩
      have cc3 : w3.cell? ⟨g3, i, none⟩ = some (.int .u8 y.toNat) := by
        obtain ⟨_, o, e, c⟩ := hin3 i him
        simp only [Option.some.injEq, Addr.mk.injEq, and_true] at e
        obtain ⟨rfl, rfl⟩ := e
        rw [Nat.zero_add, (List.getElem?_eq_some_iff.1 hy).2] at c
        exact c
      have hz3 := hfz3 i
      have hime : (i : Int) < (m : Int) := by omega
      have hrem : (k : Int) % (m : Int) = (i : Int) := by rw [hie]; exact (Int.natCast_emod k m).symm
      have HIE := Lib.hid hie
      have HIM := Lib.hid him
      have HY := Lib.hid hy
      have HB3 := Lib.hid hb3
      have HG3 := Lib.hid hg3
      have HGL3 := Lib.hid hgl3
      have HIN3 := Lib.hid hin3
      have HLC3 := Lib.hid hlc3
      have HCM3 := Lib.hid hcm3
      clear hie him hy hb3 hg3 hfz3 hin3 hlc3 hcm3 hO3 hW3 hml
      go_wp2_with fail
      rw [xor8]
      obtain ⟨x, hx⟩ : ∃ x, x = y ^^^ turn := ⟨_, rfl⟩
      rw [← hx]
      have hin4 := HIN3.out.set HIM.out x
      have hb4 := HB3.out.setCell (p := ⟨g3, i, none⟩) HG3.out (.int .u8 (x.toNat : Int))
      obtain ⟨w4, hw4⟩ : ∃ w4, w4 = w3.setCell ⟨g3, i, none⟩ (.int .u8 (x.toNat : Int)) := ⟨_, rfl⟩
      rw [← hw4] at hin4 hb4 ⊢
      have HB4 := Lib.hid hb4
      have hU := unpack_any (some ⟨g3, 0, none⟩) c3 (b.set i x) w4 hin4 (by rw [List.length_set]; exact HLC3.out) HCM3.out (HK.out.below (HB2.out.trans (hb4.mono HB2.out.size)))
      rw [List.length_set, ← show m = _ from HM.out] at hU
      clear hin4 hb4 hw4 cc3 hz3
      by_cases ht : turn = 0
      · have hxy : x = y := by rw [hx, ht]; simp
        have hbx : unpackR (b.set i x) = .ok es 0 := by
          obtain ⟨hib, hyy⟩ := List.getElem?_eq_some_iff.1 HY.out
          rw [hxy, ← hyy, List.set_getElem_self]
          exact HUP.out
        have HUN := Lib.hid hbx
        have dt : (((turn.toNat : Nat) : Int) != 0) = false := by rw [ht]; rfl
        clear hx ht hxy hbx
        refine hU.mono ?_
        rintro e w5 ⟨hb5, h5⟩
        rw [HUN.out] at h5
        obtain ⟨rows, q5, d5', hrw, rfl, hown5⟩ := h5
        have HB5 : Hid (Below w2.heap.size w2 w5) := HB4.out.trans (hb5.mono HB4.out.size)
        clear hU hb5 hrw hown5
        go_wp2_with (at_builtin; refine wpList_cat rfl _ _ rfl w5.heap.size i0 hi hz0 hz1 hz2 (.slice none 0 0) [] rfl (Out.nil _ _) q2 d2 m b HM.out rfl (HI2.out.below HB5.out) HZ2.out HC1.out HC2.out (Nat.le_refl _) m HC3.out ?_)
        intro p6 c6 w6 hO6 hW6
        have hb6 : Below w5.heap.size w5 w6 := hW6.below (Out.nil _ _) (Nat.le_refl _)
        have HB6 : Hid (Below w2.heap.size w2 w6) := HB5.out.trans (hb6.mono HB5.out.size)
        by_cases h6 : m = 5
        · have d6 : decide ((m : Int) < 6) = true := by simp; omega
          clear hO6 hW6 hb6
          go_wp2
          go_ret
          exact ⟨rfl, HB2.out.trans (HB6.out.mono HB2.out.size)⟩
        · have d6 : decide ((m : Int) < 6) = false := by simp; omega
          have hml : m = b.length := HM.out
          obtain ⟨g6, rfl, hg6, hgl6, hfz6⟩ := hO6.place (by omega)
          obtain ⟨hin6, hlc6, hcm6⟩ := hO6.inn
          obtain ⟨j, hj⟩ : ∃ j, j = k % (m - 5) := ⟨_, rfl⟩
          have hjm : j + 5 < m := by have := Nat.mod_lt k (show 0 < m - 5 by omega); omega
          have hj1 : j + 1 < b.length := by omega
          obtain ⟨u, hu⟩ : ∃ u, b[j]? = some u := ⟨_, List.getElem?_eq_getElem (by omega)⟩
          obtain ⟨v, hv⟩ : ∃ v, b[j + 1]? = some v := ⟨_, List.getElem?_eq_getElem hj1⟩
          have hcell : ∀ t z, b[t]? = some z → w6.cell? ⟨g6, t, none⟩ = some (.int .u8 z.toNat) := by
            intro t z hz
            obtain ⟨ht, rfl⟩ := List.getElem?_eq_some_iff.1 hz
            obtain ⟨_, o, e, c⟩ := hin6 t ht
            simp only [Option.some.injEq, Addr.mk.injEq, and_true] at e
            obtain ⟨rfl, rfl⟩ := e
            rw [Nat.zero_add] at c
            exact c
          have k0 := hcell _ _ hu
          have k1 := hcell _ _ hv
          have z0 := hfz6 j
          have z1 := hfz6 (j + 1)
          have hrj : (k : Int) % ((m : Int) - 5) = (j : Int) := by rw [hj, show ((m : Int) - 5) = ((m - 5 : Nat) : Int) by omega]; exact (Int.natCast_emod k (m - 5)).symm
          have h50 : ¬ ((m : Int) - 5 = 0) := by omega
          have hjme : (j : Int) < (m : Int) := by omega
          have hjme1 : (j : Int) + 1 < (m : Int) := by omega
          have HU := Lib.hid hu
          have HV := Lib.hid hv
          have HJM := Lib.hid hjm
          have HG6 := Lib.hid hg6
          have HIN6 := Lib.hid hin6
          have HLC6 := Lib.hid hlc6
          have HCM6 := Lib.hid hcm6
          have HGL6 := Lib.hid hgl6
          clear hO6 hW6 hb6 hu hv hjm hg6 hfz6 hin6 hlc6 hcm6 hml hcell hj hj1 h6
          go_wp2_with fail
          go_region
          go_wp2_with fail
          have hml : m = b.length := HM.out
          have hjm := HJM.out
          have hin7' := (HIN6.out.set (show j < b.length by omega) v).set (i := j + 1) (by rw [List.length_set]; omega) u
          have hg25 : w2.heap.size ≤ g6 := Nat.le_trans HB5.out.size HG6.out
          obtain ⟨w7, hw7⟩ : ∃ w7, w7 = ((w6.setCell ⟨g6, j, none⟩ (.int .u8 v.toNat)).setCell ⟨g6, j + 1, none⟩ (.int .u8 u.toNat)).drew := ⟨_, rfl⟩
          have hin7 : In w7 (some ⟨g6, 0, none⟩) (swapL b j u v) := by rw [hw7]; exact hin7'
          have hb7 : Below w2.heap.size w2 w7 := by rw [hw7]; exact ((HB6.out.setCell (p := ⟨g6, j, none⟩) hg25 _).setCell (p := ⟨g6, j + 1, none⟩) hg25 _).drew
          have e0 : w7.cell? ⟨g6, j, none⟩ = some (.int .u8 v.toNat) := by rw [hw7]; simp [go_sem, k0, k1]
          have e1 : w7.cell? ⟨g6, j + 1, none⟩ = some (.int .u8 u.toNat) := by rw [hw7]; simp [go_sem, k0, k1]
          rw [← hw7]
          have hsl : (swapL b j u v).length = m := by unfold swapL; rw [List.length_set, List.length_set, hml]
          have hU := unpack_any (some ⟨g6, 0, none⟩) c6 (swapL b j u v) w7 hin7 (by rw [hsl, hml]; exact HLC6.out) HCM6.out (HK.out.below (HB2.out.trans (hb7.mono HB2.out.size)))
          rw [hsl] at hU
          have HB7 := Lib.hid hb7
          have hgl7 := lt_of_cell e0
          clear hin7 hin7' hb7 hw7 k0 k1 z0 z1 hml hjm hg25 hsl
          by_cases huv : u = v
          · subst huv
            have HUN : Hid (unpackR (swapL b j u u) = .ok es 0) := by
              obtain ⟨h1, h2⟩ := List.getElem?_eq_some_iff.1 HU.out
              obtain ⟨h3, h4⟩ := List.getElem?_eq_some_iff.1 HV.out
              have := swap_alike h3 (h2.trans h4.symm)
              rw [h2, h4] at this
              show _ = _
              rw [this]
              exact HUP.out
            refine hU.mono ?_
            rintro e w8 ⟨hb8, h8⟩
            rw [HUN.out] at h8
            obtain ⟨rows8, q8, d8, hrw8, rfl, hown8⟩ := h8
            have HB8 : Hid (Below w2.heap.size w2 w8) := HB7.out.trans (hb8.mono HB7.out.size)
            have f0 := (hb8.cell (p := ⟨g6, j, none⟩) hgl7).trans e0
            have f1 := (hb8.cell (p := ⟨g6, j + 1, none⟩) hgl7).trans e1
            have hrow8 := hown8.row
            rw [hrw8] at hrow8
            have hlen8 : rows8.length = n := by rw [HN.out, ← hrw8, List.length_map]
            rw [hlen8]
            have hL := fun k : Nat => HLI.out (w8.drewN k) q8 d8 (by have := (HB2.out.trans (HB8.out.mono HB2.out.size)); exact below_drewN' this k) hrow8
            have HL := Lib.hid hL
            clear hU hb8 hrw8 hown8 hrow8 hlen8 e0 e1 hgl7 hL
            go_wp2
            go_region
            go_wp2_with fail
            refine (HL.out 1).mono ?_
            rintro e wz ⟨rfl, hbz⟩
            have HBZ : Hid (Below W.heap.size W wz) := (below_drewN' (HB2.out.trans (HB8.out.mono HB2.out.size)) 1).trans (hbz.mono (HB2.out.trans (HB8.out.mono HB2.out.size)).size)
            clear hbz
            go_wp2
            go_ret
            exact ⟨rfl, HBZ.out⟩
          · have HUN := Lib.hid (HD2.out j u v (by rw [← show m = _ from HM.out]; exact HJM.out) HU.out HV.out huv)
            have dvu : (((v.toNat : Nat) : Int) == ((u.toNat : Nat) : Int)) = false := by
              rw [beq_eq_false_iff_ne]
              intro h
              exact huv (UInt8.toNat_inj.1 (by omega))
            refine hU.mono ?_
            rintro e w8 ⟨hb8, h8⟩
            rw [HUN.out] at h8
            obtain ⟨rfl, _⟩ := h8
            have HB8 : Hid (Below w2.heap.size w2 w8) := HB7.out.trans (hb8.mono HB7.out.size)
            have f0 := (hb8.cell (p := ⟨g6, j, none⟩) hgl7).trans e0
            have f1 := (hb8.cell (p := ⟨g6, j + 1, none⟩) hgl7).trans e1
            clear hU hb8 e0 e1 hgl7
            go_wp2
            go_region
            go_wp2
            go_ret
            exact ⟨rfl, below_drewN' (HB2.out.trans (HB8.out.mono HB2.out.size)) 1⟩
      · have hxy : x ≠ y := by
          intro h
          rw [hx] at h
          exact ht (by have := congrArg (fun z => y ^^^ z) h; simpa [← UInt8.xor_assoc] using this)
        have HUN := Lib.hid (HD1.out i x y HY.out hxy)
        have dt : (((turn.toNat : Nat) : Int) != 0) = true := by simp; intro h; exact ht (UInt8.toNat_inj.1 (by simpa using h))
        clear hx ht hxy
        refine hU.mono ?_
        rintro e w5 ⟨hb5, h5⟩
        rw [HUN.out] at h5
        obtain ⟨rfl, _⟩ := h5
        have HB5 : Hid (Below w2.heap.size w2 w5) := HB4.out.trans (hb5.mono HB4.out.size)
        clear hU hb5
        go_wp2_with (at_builtin; refine wpList_cat rfl _ _ rfl w5.heap.size i0 hi hz0 hz1 hz2 (.slice none 0 0) [] rfl (Out.nil _ _) q2 d2 m b HM.out rfl (HI2.out.below HB5.out) HZ2.out HC1.out HC2.out (Nat.le_refl _) m HC3.out ?_)
        intro p6 c6 w6 hO6 hW6
        have hb6 : Below w5.heap.size w5 w6 := hW6.below (Out.nil _ _) (Nat.le_refl _)
        have HB6 : Hid (Below w2.heap.size w2 w6) := HB5.out.trans (hb6.mono HB5.out.size)
        by_cases h6 : m = 5
        · have d6 : decide ((m : Int) < 6) = true := by simp; omega
          clear hO6 hW6 hb6
          go_wp2
          go_ret
          exact ⟨rfl, HB2.out.trans (HB6.out.mono HB2.out.size)⟩
        · have d6 : decide ((m : Int) < 6) = false := by simp; omega
          have hml : m = b.length := HM.out
          obtain ⟨g6, rfl, hg6, hgl6, hfz6⟩ := hO6.place (by omega)
          obtain ⟨hin6, hlc6, hcm6⟩ := hO6.inn
          obtain ⟨j, hj⟩ : ∃ j, j = k % (m - 5) := ⟨_, rfl⟩
          have hjm : j + 5 < m := by have := Nat.mod_lt k (show 0 < m - 5 by omega); omega
          have hj1 : j + 1 < b.length := by omega
          obtain ⟨u, hu⟩ : ∃ u, b[j]? = some u := ⟨_, List.getElem?_eq_getElem (by omega)⟩
          obtain ⟨v, hv⟩ : ∃ v, b[j + 1]? = some v := ⟨_, List.getElem?_eq_getElem hj1⟩
          have hcell : ∀ t z, b[t]? = some z → w6.cell? ⟨g6, t, none⟩ = some (.int .u8 z.toNat) := by
            intro t z hz
            obtain ⟨ht, rfl⟩ := List.getElem?_eq_some_iff.1 hz
            obtain ⟨_, o, e, c⟩ := hin6 t ht
            simp only [Option.some.injEq, Addr.mk.injEq, and_true] at e
            obtain ⟨rfl, rfl⟩ := e
            rw [Nat.zero_add] at c
            exact c
          have k0 := hcell _ _ hu
          have k1 := hcell _ _ hv
          have z0 := hfz6 j
          have z1 := hfz6 (j + 1)
          have hrj : (k : Int) % ((m : Int) - 5) = (j : Int) := by rw [hj, show ((m : Int) - 5) = ((m - 5 : Nat) : Int) by omega]; exact (Int.natCast_emod k (m - 5)).symm
          have h50 : ¬ ((m : Int) - 5 = 0) := by omega
          have hjme : (j : Int) < (m : Int) := by omega
          have hjme1 : (j : Int) + 1 < (m : Int) := by omega
          have HU := Lib.hid hu
          have HV := Lib.hid hv
          have HJM := Lib.hid hjm
          have HG6 := Lib.hid hg6
          have HIN6 := Lib.hid hin6
          have HLC6 := Lib.hid hlc6
          have HCM6 := Lib.hid hcm6
          have HGL6 := Lib.hid hgl6
          clear hO6 hW6 hb6 hu hv hjm hg6 hfz6 hin6 hlc6 hcm6 hml hcell hj hj1 h6
          go_wp2_with fail
          go_region
          go_wp2_with fail
          have hml : m = b.length := HM.out
          have hjm := HJM.out
          have hin7' := (HIN6.out.set (show j < b.length by omega) v).set (i := j + 1) (by rw [List.length_set]; omega) u
          have hg25 : w2.heap.size ≤ g6 := Nat.le_trans HB5.out.size HG6.out
          obtain ⟨w7, hw7⟩ : ∃ w7, w7 = ((w6.setCell ⟨g6, j, none⟩ (.int .u8 v.toNat)).setCell ⟨g6, j + 1, none⟩ (.int .u8 u.toNat)).drew := ⟨_, rfl⟩
          have hin7 : In w7 (some ⟨g6, 0, none⟩) (swapL b j u v) := by rw [hw7]; exact hin7'
          have hb7 : Below w2.heap.size w2 w7 := by rw [hw7]; exact ((HB6.out.setCell (p := ⟨g6, j, none⟩) hg25 _).setCell (p := ⟨g6, j + 1, none⟩) hg25 _).drew
          have e0 : w7.cell? ⟨g6, j, none⟩ = some (.int .u8 v.toNat) := by rw [hw7]; simp [go_sem, k0, k1]
          have e1 : w7.cell? ⟨g6, j + 1, none⟩ = some (.int .u8 u.toNat) := by rw [hw7]; simp [go_sem, k0, k1]
          rw [← hw7]
          have hsl : (swapL b j u v).length = m := by unfold swapL; rw [List.length_set, List.length_set, hml]
          have hU := unpack_any (some ⟨g6, 0, none⟩) c6 (swapL b j u v) w7 hin7 (by rw [hsl, hml]; exact HLC6.out) HCM6.out (HK.out.below (HB2.out.trans (hb7.mono HB2.out.size)))
          rw [hsl] at hU
          have HB7 := Lib.hid hb7
          have hgl7 := lt_of_cell e0
          clear hin7 hin7' hb7 hw7 k0 k1 z0 z1 hml hjm hg25 hsl
          by_cases huv : u = v
          · subst huv
            have HUN : Hid (unpackR (swapL b j u u) = .ok es 0) := by
              obtain ⟨h1, h2⟩ := List.getElem?_eq_some_iff.1 HU.out
              obtain ⟨h3, h4⟩ := List.getElem?_eq_some_iff.1 HV.out
              have := swap_alike h3 (h2.trans h4.symm)
              rw [h2, h4] at this
              show _ = _
              rw [this]
              exact HUP.out
            refine hU.mono ?_
            rintro e w8 ⟨hb8, h8⟩
            rw [HUN.out] at h8
            obtain ⟨rows8, q8, d8, hrw8, rfl, hown8⟩ := h8
            have HB8 : Hid (Below w2.heap.size w2 w8) := HB7.out.trans (hb8.mono HB7.out.size)
            have f0 := (hb8.cell (p := ⟨g6, j, none⟩) hgl7).trans e0
            have f1 := (hb8.cell (p := ⟨g6, j + 1, none⟩) hgl7).trans e1
            have hrow8 := hown8.row
            rw [hrw8] at hrow8
            have hlen8 : rows8.length = n := by rw [HN.out, ← hrw8, List.length_map]
            rw [hlen8]
            have hL := fun k : Nat => HLI.out (w8.drewN k) q8 d8 (by have := (HB2.out.trans (HB8.out.mono HB2.out.size)); exact below_drewN' this k) hrow8
            have HL := Lib.hid hL
            clear hU hb8 hrw8 hown8 hrow8 hlen8 e0 e1 hgl7 hL
            go_wp2
            go_region
            go_wp2_with fail
            refine (HL.out 1).mono ?_
            rintro e wz ⟨rfl, hbz⟩
            have HBZ : Hid (Below W.heap.size W wz) := (below_drewN' (HB2.out.trans (HB8.out.mono HB2.out.size)) 1).trans (hbz.mono (HB2.out.trans (HB8.out.mono HB2.out.size)).size)
            clear hbz
            go_wp2
            go_ret
            exact ⟨rfl, HBZ.out⟩
          · have HUN := Lib.hid (HD2.out j u v (by rw [← show m = _ from HM.out]; exact HJM.out) HU.out HV.out huv)
            have dvu : (((v.toNat : Nat) : Int) == ((u.toNat : Nat) : Int)) = false := by
              rw [beq_eq_false_iff_ne]
              intro h
              exact huv (UInt8.toNat_inj.1 (by omega))
            refine hU.mono ?_
            rintro e w8 ⟨hb8, h8⟩
            rw [HUN.out] at h8
            obtain ⟨rfl, _⟩ := h8
            have HB8 : Hid (Below w2.heap.size w2 w8) := HB7.out.trans (hb8.mono HB7.out.size)
            have f0 := (hb8.cell (p := ⟨g6, j, none⟩) hgl7).trans e0
            have f1 := (hb8.cell (p := ⟨g6, j + 1, none⟩) hgl7).trans e1
            clear hU hb8 e0 e1 hgl7
            go_wp2
            go_region
            go_wp2
            go_ret
            exact ⟨rfl, below_drewN' (HB2.out.trans (HB8.out.mono HB2.out.size)) 1⟩
    · obtain ⟨k, rfl⟩ : ∃ k : Nat, at_ = (k : Int) := ⟨at_.toNat, by omega⟩
      go_wp2_with (at_builtin; refine wpList_cat rfl _ _ rfl w2.heap.size i0 hi hz0 hz1 hz2 (.slice none 0 0) [] rfl (Out.nil _ _) q2 d2 m b HM.out rfl HI2.out HZ2.out HC1.out HC2.out (Nat.le_refl _) m HC3.out ?_)
      intro p3 c3 w3 hO3 hW3
      have hb3 : Below w2.heap.size w2 w3 := hW3.below (Out.nil _ _) (Nat.le_refl _)
      have hml : m = b.length := HM.out
      obtain ⟨g3, rfl, hg3, hgl3, hfz3⟩ := hO3.place (by omega)
      obtain ⟨hin3, hlc3, hcm3⟩ := hO3.inn
      obtain ⟨i, hie⟩ : ∃ i, i = k % m := ⟨_, rfl⟩
      have him : i < b.length := by rw [← hml, hie]; exact Nat.mod_lt _ (by omega)
      obtain ⟨y, hy⟩ : ∃ y, b[i]? = some y := ⟨b[i], List.getElem?_eq_getElem him⟩
      have cc3 : w3.cell? ⟨g3, i, none⟩ = some (.int .u8 y.toNat) := by
        obtain ⟨_, o, e, c⟩ := hin3 i him
        simp only [Option.some.injEq, Addr.mk.injEq, and_true] at e
        obtain ⟨rfl, rfl⟩ := e
        rw [Nat.zero_add, (List.getElem?_eq_some_iff.1 hy).2] at c
        exact c
      have hz3 := hfz3 i
      have hime : (i : Int) < (m : Int) := by omega
      have hrem : (k : Int) % (m : Int) = (i : Int) := by rw [hie]; exact (Int.natCast_emod k m).symm
      have HIE := Lib.hid hie
      have HIM := Lib.hid him
      have HY := Lib.hid hy
      have HB3 := Lib.hid hb3
      have HG3 := Lib.hid hg3
      have HGL3 := Lib.hid hgl3
      have HIN3 := Lib.hid hin3
      have HLC3 := Lib.hid hlc3
      have HCM3 := Lib.hid hcm3
      clear hie him hy hb3 hg3 hfz3 hin3 hlc3 hcm3 hO3 hW3 hml
      go_wp2_with fail
      rw [xor8]
      obtain ⟨x, hx⟩ : ∃ x, x = y ^^^ turn := ⟨_, rfl⟩
      rw [← hx]
      have hin4 := HIN3.out.set HIM.out x
      have hb4 := HB3.out.setCell (p := ⟨g3, i, none⟩) HG3.out (.int .u8 (x.toNat : Int))
      obtain ⟨w4, hw4⟩ : ∃ w4, w4 = w3.setCell ⟨g3, i, none⟩ (.int .u8 (x.toNat : Int)) := ⟨_, rfl⟩
      rw [← hw4] at hin4 hb4 ⊢
      have HB4 := Lib.hid hb4
      have hU := unpack_any (some ⟨g3, 0, none⟩) c3 (b.set i x) w4 hin4 (by rw [List.length_set]; exact HLC3.out) HCM3.out (HK.out.below (HB2.out.trans (hb4.mono HB2.out.size)))
      rw [List.length_set, ← show m = _ from HM.out] at hU
      clear hin4 hb4 hw4 cc3 hz3
      by_cases ht : turn = 0
      · have hxy : x = y := by rw [hx, ht]; simp
        have hbx : unpackR (b.set i x) = .ok es 0 := by
          obtain ⟨hib, hyy⟩ := List.getElem?_eq_some_iff.1 HY.out
          rw [hxy, ← hyy, List.set_getElem_self]
          exact HUP.out
        have HUN := Lib.hid hbx
        have dt : (((turn.toNat : Nat) : Int) != 0) = false := by rw [ht]; rfl
        clear hx ht hxy hbx
        refine hU.mono ?_
        rintro e w5 ⟨hb5, h5⟩
        rw [HUN.out] at h5
        obtain ⟨rows, q5, d5', hrw, rfl, hown5⟩ := h5
        have HB5 : Hid (Below w2.heap.size w2 w5) := HB4.out.trans (hb5.mono HB4.out.size)
        clear hU hb5 hrw hown5
        go_wp2_with (at_builtin; refine wpList_cat rfl _ _ rfl w5.heap.size i0 hi hz0 hz1 hz2 (.slice none 0 0) [] rfl (Out.nil _ _) q2 d2 m b HM.out rfl (HI2.out.below HB5.out) HZ2.out HC1.out HC2.out (Nat.le_refl _) m HC3.out ?_)
        intro p6 c6 w6 hO6 hW6
        have hb6 : Below w5.heap.size w5 w6 := hW6.below (Out.nil _ _) (Nat.le_refl _)
        have HB6 : Hid (Below w2.heap.size w2 w6) := HB5.out.trans (hb6.mono HB5.out.size)
        by_cases h6 : m = 5
        · have d6 : decide ((m : Int) < 6) = true := by simp; omega
          clear hO6 hW6 hb6
          go_wp2
          go_ret
          exact ⟨rfl, HB2.out.trans (HB6.out.mono HB2.out.size)⟩
        · have d6 : decide ((m : Int) < 6) = false := by simp; omega
          have hml : m = b.length := HM.out
          obtain ⟨g6, rfl, hg6, hgl6, hfz6⟩ := hO6.place (by omega)
          obtain ⟨hin6, hlc6, hcm6⟩ := hO6.inn
          obtain ⟨j, hj⟩ : ∃ j, j = k % (m - 5) := ⟨_, rfl⟩
          have hjm : j + 5 < m := by have := Nat.mod_lt k (show 0 < m - 5 by omega); omega
          have hj1 : j + 1 < b.length := by omega
          obtain ⟨u, hu⟩ : ∃ u, b[j]? = some u := ⟨_, List.getElem?_eq_getElem (by omega)⟩
          obtain ⟨v, hv⟩ : ∃ v, b[j + 1]? = some v := ⟨_, List.getElem?_eq_getElem hj1⟩
          have hcell : ∀ t z, b[t]? = some z → w6.cell? ⟨g6, t, none⟩ = some (.int .u8 z.toNat) := by
            intro t z hz
            obtain ⟨ht, rfl⟩ := List.getElem?_eq_some_iff.1 hz
            obtain ⟨_, o, e, c⟩ := hin6 t ht
            simp only [Option.some.injEq, Addr.mk.injEq, and_true] at e
            obtain ⟨rfl, rfl⟩ := e
            rw [Nat.zero_add] at c
            exact c
          have k0 := hcell _ _ hu
          have k1 := hcell _ _ hv
          have z0 := hfz6 j
          have z1 := hfz6 (j + 1)
          have hrj : (k : Int) % ((m : Int) - 5) = (j : Int) := by rw [hj, show ((m : Int) - 5) = ((m - 5 : Nat) : Int) by omega]; exact (Int.natCast_emod k (m - 5)).symm
          have h50 : ¬ ((m : Int) - 5 = 0) := by omega
          have hjme : (j : Int) < (m : Int) := by omega
          have hjme1 : (j : Int) + 1 < (m : Int) := by omega
          have HU := Lib.hid hu
          have HV := Lib.hid hv
          have HJM := Lib.hid hjm
          have HG6 := Lib.hid hg6
          have HIN6 := Lib.hid hin6
          have HLC6 := Lib.hid hlc6
          have HCM6 := Lib.hid hcm6
          have HGL6 := Lib.hid hgl6
          clear hO6 hW6 hb6 hu hv hjm hg6 hfz6 hin6 hlc6 hcm6 hml hcell hj hj1 h6
          go_wp2_with fail
          go_region
          go_wp2_with fail
          have hml : m = b.length := HM.out
          have hjm := HJM.out
          have hin7' := (HIN6.out.set (show j < b.length by omega) v).set (i := j + 1) (by rw [List.length_set]; omega) u
          have hg25 : w2.heap.size ≤ g6 := Nat.le_trans HB5.out.size HG6.out
          obtain ⟨w7, hw7⟩ : ∃ w7, w7 = ((w6.setCell ⟨g6, j, none⟩ (.int .u8 v.toNat)).setCell ⟨g6, j + 1, none⟩ (.int .u8 u.toNat)).drew := ⟨_, rfl⟩
          have hin7 : In w7 (some ⟨g6, 0, none⟩) (swapL b j u v) := by rw [hw7]; exact hin7'
          have hb7 : Below w2.heap.size w2 w7 := by rw [hw7]; exact ((HB6.out.setCell (p := ⟨g6, j, none⟩) hg25 _).setCell (p := ⟨g6, j + 1, none⟩) hg25 _).drew
          have e0 : w7.cell? ⟨g6, j, none⟩ = some (.int .u8 v.toNat) := by rw [hw7]; simp [go_sem, k0, k1]
          have e1 : w7.cell? ⟨g6, j + 1, none⟩ = some (.int .u8 u.toNat) := by rw [hw7]; simp [go_sem, k0, k1]
          rw [← hw7]
          have hsl : (swapL b j u v).length = m := by unfold swapL; rw [List.length_set, List.length_set, hml]
          have hU := unpack_any (some ⟨g6, 0, none⟩) c6 (swapL b j u v) w7 hin7 (by rw [hsl, hml]; exact HLC6.out) HCM6.out (HK.out.below (HB2.out.trans (hb7.mono HB2.out.size)))
          rw [hsl] at hU
          have HB7 := Lib.hid hb7
          have hgl7 := lt_of_cell e0
          clear hin7 hin7' hb7 hw7 k0 k1 z0 z1 hml hjm hg25 hsl
          by_cases huv : u = v
          · subst huv
            have HUN : Hid (unpackR (swapL b j u u) = .ok es 0) := by
              obtain ⟨h1, h2⟩ := List.getElem?_eq_some_iff.1 HU.out
              obtain ⟨h3, h4⟩ := List.getElem?_eq_some_iff.1 HV.out
              have := swap_alike h3 (h2.trans h4.symm)
              rw [h2, h4] at this
              show _ = _
              rw [this]
              exact HUP.out
            refine hU.mono ?_
            rintro e w8 ⟨hb8, h8⟩
            rw [HUN.out] at h8
            obtain ⟨rows8, q8, d8, hrw8, rfl, hown8⟩ := h8
            have HB8 : Hid (Below w2.heap.size w2 w8) := HB7.out.trans (hb8.mono HB7.out.size)
            have f0 := (hb8.cell (p := ⟨g6, j, none⟩) hgl7).trans e0
            have f1 := (hb8.cell (p := ⟨g6, j + 1, none⟩) hgl7).trans e1
            have hrow8 := hown8.row
            rw [hrw8] at hrow8
            have hlen8 : rows8.length = n := by rw [HN.out, ← hrw8, List.length_map]
            rw [hlen8]
            have hL := fun k : Nat => HLI.out (w8.drewN k) q8 d8 (by have := (HB2.out.trans (HB8.out.mono HB2.out.size)); exact below_drewN' this k) hrow8
            have HL := Lib.hid hL
            clear hU hb8 hrw8 hown8 hrow8 hlen8 e0 e1 hgl7 hL
            go_wp2
            go_region
            go_wp2_with fail
            refine (HL.out 1).mono ?_
            rintro e wz ⟨rfl, hbz⟩
            have HBZ : Hid (Below W.heap.size W wz) := (below_drewN' (HB2.out.trans (HB8.out.mono HB2.out.size)) 1).trans (hbz.mono (HB2.out.trans (HB8.out.mono HB2.out.size)).size)
            clear hbz
            go_wp2
            go_ret
            exact ⟨rfl, HBZ.out⟩
          · have HUN := Lib.hid (HD2.out j u v (by rw [← show m = _ from HM.out]; exact HJM.out) HU.out HV.out huv)
            have dvu : (((v.toNat : Nat) : Int) == ((u.toNat : Nat) : Int)) = false := by
              rw [beq_eq_false_iff_ne]
              intro h
              exact huv (UInt8.toNat_inj.1 (by omega))
            refine hU.mono ?_
            rintro e w8 ⟨hb8, h8⟩
            rw [HUN.out] at h8
            obtain ⟨rfl, _⟩ := h8
            have HB8 : Hid (Below w2.heap.size w2 w8) := HB7.out.trans (hb8.mono HB7.out.size)
            have f0 := (hb8.cell (p := ⟨g6, j, none⟩) hgl7).trans e0
            have f1 := (hb8.cell (p := ⟨g6, j + 1, none⟩) hgl7).trans e1
            clear hU hb8 e0 e1 hgl7
            go_wp2
            go_region
            go_wp2
            go_ret
            exact ⟨rfl, below_drewN' (HB2.out.trans (HB8.out.mono HB2.out.size)) 1⟩
      · have hxy : x ≠ y := by
          intro h
          rw [hx] at h
          exact ht (by have := congrArg (fun z => y ^^^ z) h; simpa [← UInt8.xor_assoc] using this)
        have HUN := Lib.hid (HD1.out i x y HY.out hxy)
        have dt : (((turn.toNat : Nat) : Int) != 0) = true := by simp; intro h; exact ht (UInt8.toNat_inj.1 (by simpa using h))
        clear hx ht hxy
        refine hU.mono ?_
        rintro e w5 ⟨hb5, h5⟩
        rw [HUN.out] at h5
        obtain ⟨rfl, _⟩ := h5
        have HB5 : Hid (Below w2.heap.size w2 w5) := HB4.out.trans (hb5.mono HB4.out.size)
        clear hU hb5
        go_wp2_with (at_builtin; refine wpList_cat rfl _ _ rfl w5.heap.size i0 hi hz0 hz1 hz2 (.slice none 0 0) [] rfl (Out.nil _ _) q2 d2 m b HM.out rfl (HI2.out.below HB5.out) HZ2.out HC1.out HC2.out (Nat.le_refl _) m HC3.out ?_)
        intro p6 c6 w6 hO6 hW6
        have hb6 : Below w5.heap.size w5 w6 := hW6.below (Out.nil _ _) (Nat.le_refl _)
        have HB6 : Hid (Below w2.heap.size w2 w6) := HB5.out.trans (hb6.mono HB5.out.size)
        by_cases h6 : m = 5
        · have d6 : decide ((m : Int) < 6) = true := by simp; omega
          clear hO6 hW6 hb6
          go_wp2
          go_ret
          exact ⟨rfl, HB2.out.trans (HB6.out.mono HB2.out.size)⟩
        · have d6 : decide ((m : Int) < 6) = false := by simp; omega
          have hml : m = b.length := HM.out
          obtain ⟨g6, rfl, hg6, hgl6, hfz6⟩ := hO6.place (by omega)
          obtain ⟨hin6, hlc6, hcm6⟩ := hO6.inn
          obtain ⟨j, hj⟩ : ∃ j, j = k % (m - 5) := ⟨_, rfl⟩
          have hjm : j + 5 < m := by have := Nat.mod_lt k (show 0 < m - 5 by omega); omega
          have hj1 : j + 1 < b.length := by omega
          obtain ⟨u, hu⟩ : ∃ u, b[j]? = some u := ⟨_, List.getElem?_eq_getElem (by omega)⟩
          obtain ⟨v, hv⟩ : ∃ v, b[j + 1]? = some v := ⟨_, List.getElem?_eq_getElem hj1⟩
          have hcell : ∀ t z, b[t]? = some z → w6.cell? ⟨g6, t, none⟩ = some (.int .u8 z.toNat) := by
            intro t z hz
            obtain ⟨ht, rfl⟩ := List.getElem?_eq_some_iff.1 hz
            obtain ⟨_, o, e, c⟩ := hin6 t ht
            simp only [Option.some.injEq, Addr.mk.injEq, and_true] at e
            obtain ⟨rfl, rfl⟩ := e
            rw [Nat.zero_add] at c
            exact c
          have k0 := hcell _ _ hu
          have k1 := hcell _ _ hv
          have z0 := hfz6 j
          have z1 := hfz6 (j + 1)
          have hrj : (k : Int) % ((m : Int) - 5) = (j : Int) := by rw [hj, show ((m : Int) - 5) = ((m - 5 : Nat) : Int) by omega]; exact (Int.natCast_emod k (m - 5)).symm
          have h50 : ¬ ((m : Int) - 5 = 0) := by omega
          have hjme : (j : Int) < (m : Int) := by omega
          have hjme1 : (j : Int) + 1 < (m : Int) := by omega
          have HU := Lib.hid hu
          have HV := Lib.hid hv
          have HJM := Lib.hid hjm
          have HG6 := Lib.hid hg6
          have HIN6 := Lib.hid hin6
          have HLC6 := Lib.hid hlc6
          have HCM6 := Lib.hid hcm6
          have HGL6 := Lib.hid hgl6
          clear hO6 hW6 hb6 hu hv hjm hg6 hfz6 hin6 hlc6 hcm6 hml hcell hj hj1 h6
          go_wp2_with fail
          go_region
          go_wp2_with fail
          have hml : m = b.length := HM.out
          have hjm := HJM.out
          have hin7' := (HIN6.out.set (show j < b.length by omega) v).set (i := j + 1) (by rw [List.length_set]; omega) u
          have hg25 : w2.heap.size ≤ g6 := Nat.le_trans HB5.out.size HG6.out
          obtain ⟨w7, hw7⟩ : ∃ w7, w7 = ((w6.setCell ⟨g6, j, none⟩ (.int .u8 v.toNat)).setCell ⟨g6, j + 1, none⟩ (.int .u8 u.toNat)).drew := ⟨_, rfl⟩
          have hin7 : In w7 (some ⟨g6, 0, none⟩) (swapL b j u v) := by rw [hw7]; exact hin7'
          have hb7 : Below w2.heap.size w2 w7 := by rw [hw7]; exact ((HB6.out.setCell (p := ⟨g6, j, none⟩) hg25 _).setCell (p := ⟨g6, j + 1, none⟩) hg25 _).drew
          have e0 : w7.cell? ⟨g6, j, none⟩ = some (.int .u8 v.toNat) := by rw [hw7]; simp [go_sem, k0, k1]
          have e1 : w7.cell? ⟨g6, j + 1, none⟩ = some (.int .u8 u.toNat) := by rw [hw7]; simp [go_sem, k0, k1]
          rw [← hw7]
          have hsl : (swapL b j u v).length = m := by unfold swapL; rw [List.length_set, List.length_set, hml]
          have hU := unpack_any (some ⟨g6, 0, none⟩) c6 (swapL b j u v) w7 hin7 (by rw [hsl, hml]; exact HLC6.out) HCM6.out (HK.out.below (HB2.out.trans (hb7.mono HB2.out.size)))
          rw [hsl] at hU
          have HB7 := Lib.hid hb7
          have hgl7 := lt_of_cell e0
          clear hin7 hin7' hb7 hw7 k0 k1 z0 z1 hml hjm hg25 hsl
          by_cases huv : u = v
          · subst huv
            have HUN : Hid (unpackR (swapL b j u u) = .ok es 0) := by
              obtain ⟨h1, h2⟩ := List.getElem?_eq_some_iff.1 HU.out
              obtain ⟨h3, h4⟩ := List.getElem?_eq_some_iff.1 HV.out
              have := swap_alike h3 (h2.trans h4.symm)
              rw [h2, h4] at this
              show _ = _
              rw [this]
              exact HUP.out
            refine hU.mono ?_
            rintro e w8 ⟨hb8, h8⟩
            rw [HUN.out] at h8
            obtain ⟨rows8, q8, d8, hrw8, rfl, hown8⟩ := h8
            have HB8 : Hid (Below w2.heap.size w2 w8) := HB7.out.trans (hb8.mono HB7.out.size)
            have f0 := (hb8.cell (p := ⟨g6, j, none⟩) hgl7).trans e0
            have f1 := (hb8.cell (p := ⟨g6, j + 1, none⟩) hgl7).trans e1
            have hrow8 := hown8.row
            rw [hrw8] at hrow8
            have hlen8 : rows8.length = n := by rw [HN.out, ← hrw8, List.length_map]
            rw [hlen8]
            have hL := fun k : Nat => HLI.out (w8.drewN k) q8 d8 (by have := (HB2.out.trans (HB8.out.mono HB2.out.size)); exact below_drewN' this k) hrow8
            have HL := Lib.hid hL
            clear hU hb8 hrw8 hown8 hrow8 hlen8 e0 e1 hgl7 hL
            go_wp2
            go_region
            go_wp2_with fail
            refine (HL.out 1).mono ?_
            rintro e wz ⟨rfl, hbz⟩
            have HBZ : Hid (Below W.heap.size W wz) := (below_drewN' (HB2.out.trans (HB8.out.mono HB2.out.size)) 1).trans (hbz.mono (HB2.out.trans (HB8.out.mono HB2.out.size)).size)
            clear hbz
            go_wp2
            go_ret
            exact ⟨rfl, HBZ.out⟩
          · have HUN := Lib.hid (HD2.out j u v (by rw [← show m = _ from HM.out]; exact HJM.out) HU.out HV.out huv)
            have dvu : (((v.toNat : Nat) : Int) == ((u.toNat : Nat) : Int)) = false := by
              rw [beq_eq_false_iff_ne]
              intro h
              exact huv (UInt8.toNat_inj.1 (by omega))
            refine hU.mono ?_
            rintro e w8 ⟨hb8, h8⟩
            rw [HUN.out] at h8
            obtain ⟨rfl, _⟩ := h8
            have HB8 : Hid (Below w2.heap.size w2 w8) := HB7.out.trans (hb8.mono HB7.out.size)
            have f0 := (hb8.cell (p := ⟨g6, j, none⟩) hgl7).trans e0
            have f1 := (hb8.cell (p := ⟨g6, j + 1, none⟩) hgl7).trans e1
            clear hU hb8 e0 e1 hgl7
            go_wp2
            go_region
            go_wp2
            go_ret
            exact ⟨rfl, below_drewN' (HB2.out.trans (HB8.out.mono HB2.out.size)) 1⟩
  · have dp : (packF es == 0) = false := by simpa using hp
    obtain ⟨F, hF⟩ : ∃ F, F = packF es := ⟨_, rfl⟩
    rw [← hF] at dp ⊢
    clear hF hp
    go_wp2
    go_ret
    exact ⟨rfl, HB2.out⟩
end Go.Proofs.YtlinpkmfjkcoiaaDoor.lawDamage
