/- The walk of TokenString. -/
import Derived.Test.YtdafnkfnaknoiaaDoorV5
import Derived.Test.YtdafnkfnaknoiaaDoorK4
import Derived.Test.YtdafnkfnaknoiaaDoorQ5
namespace Go.Proofs.YtdafnkfnaknoiaaDoor
open Go Go.RowKit
set_option maxHeartbeats 2000000
set_option linter.unusedVariables false
set_option linter.unusedSimpArgs false
attribute [local go_sem ↓] run_eql_T run_neq_T
def dL (x : Nat) : UInt8 := if x < 10 then UInt8.ofNat (48 + x) else UInt8.ofNat (87 + x)
def uL (x : Nat) : UInt8 := if x < 10 then UInt8.ofNat (48 + x) else UInt8.ofNat (55 + x)
theorem hexV_dL {x : Nat} (h : x < 16) : hexV (dL x) = some x := by
  have : ∀ x : Fin 16, hexV (dL x.val) = some x.val := by decide
  exact this ⟨x, h⟩
theorem hexV_uL {x : Nat} (h : x < 16) : hexV (uL x) = some x := by
  have : ∀ x : Fin 16, hexV (uL x.val) = some x.val := by decide
  exact this ⟨x, h⟩
/-- how a byte is written -/
def encB (k : Nat) (c : UInt8) : List UInt8 :=
  if k = 1 then [92, 120, dL (c.toNat / 16), uL (c.toNat % 16)] else if k = 2 ∧ c = 10 then [92, 110] else if k = 2 ∧ c = 9 then [92, 116] else if c = 34 ∨ c = 92 then [92, c]
  else if c.toNat < 32 ∨ 126 < c.toNat then [92, 120, uL (c.toNat / 16), dL (c.toNat % 16)] else [c]
theorem byte_hex (c : UInt8) : c = UInt8.ofNat (16 * (c.toNat / 16) + c.toNat % 16) := by
  apply UInt8.toNat_inj.1
  rw [UInt8.toNat_ofNat']
  have := c.toNat_lt
  omega
theorem encB_writes (k : Nat) (c : UInt8) : Writes (encB k c) c := by
  have hc := c.toNat_lt
  unfold encB
  split
  · exact writes_x (hexV_dL (by omega)) (hexV_uL (by omega)) (byte_hex c)
  · split
    · rename_i h; rw [h.2]; exact writes_n
    · split
      · rename_i h; rw [h.2]; exact writes_t
      · split
        · rename_i h; exact writes_back h
        · split
          · exact writes_x (hexV_uL (by omega)) (hexV_dL (by omega)) (byte_hex c)
          · rename_i h1 h2
            exact writes_self (by omega) (fun h => h1 (.inl h)) (fun h => h1 (.inr h))
theorem encB_len (k : Nat) (c : UInt8) : (encB k c).length ≤ 4 := by
  unfold encB
  repeat' split
  all_goals simp
theorem wrap_u8 {x : Int} (h0 : 0 ≤ x) (h1 : x < 256) : IntKind.u8.wrap x = x := by
  rw [IntKind.wrap_u8]
  omega
abbrev dS : ByteArray := ⟨#[48, 49, 50, 51, 52, 53, 54, 55, 56, 57, 97, 98, 99, 100, 101, 102]⟩
abbrev uS : ByteArray := ⟨#[48, 49, 50, 51, 52, 53, 54, 55, 56, 57, 65, 66, 67, 68, 69, 70]⟩
theorem dS_at (x : Int) (k : Nat) (hk : k < 16) (hx : x = (k : Int)) (h : x.toNat < dS.size) : ((dS[x.toNat]'h).toNat : Int) = ((dL k).toNat : Int) := by
  subst hx
  have : ∀ x : Fin 16, ∀ h : (x.val : Int).toNat < dS.size, (dS[(x.val : Int).toNat]'h).toNat = (dL x.val).toNat := by decide
  rw [this ⟨k, hk⟩ h]
theorem uS_at (x : Int) (k : Nat) (hk : k < 16) (hx : x = (k : Int)) (h : x.toNat < uS.size) : ((uS[x.toNat]'h).toNat : Int) = ((uL k).toNat : Int) := by
  subst hx
  have : ∀ x : Fin 16, ∀ h : (x.val : Int).toNat < uS.size, (uS[(x.val : Int).toNat]'h).toNat = (uL x.val).toNat := by decide
  rw [this ⟨k, hk⟩ h]
/-- at the head of each round -/
structure SRel2 (B : Nat) (W0 : World) (Y : ByteArray) (v : Value) (i : Nat) (es : List (List UInt8 × UInt8)) (wr : World) : Prop where
  len : es.length = i
  le : i ≤ Y.size
  map : es.map (·.2) = Y.data.toList.take i
  all : ∀ x ∈ es, Writes x.1 x.2
  small : (es.flatMap (·.1)).length ≤ 4 * i
  own : wr.ownsRow B 5 1 v (1 + (es.flatMap (·.1)).length) (Lib.byteCells (34 :: es.flatMap (·.1)))
  below : Below B W0 wr
theorem SRel2.next {B : Nat} {W0 : World} {Y : ByteArray} {v v2 : Value} {i : Nat} {es : List (List UInt8 × UInt8)} {wr w2 : World} (h : SRel2 B W0 Y v i es wr) (hlt : i < Y.size) (e : List UInt8) (K : Nat) (he : e = encB K Y[i]) (fl : Nat) (hfl : fl = (es.flatMap (·.1)).length) (m : Nat) (hm : m = e.length) {xs : List Value} (hx : xs = Lib.byteCells e)
    (hown : w2.ownsRow B 5 1 v2 (1 + fl + m) (Lib.byteCells (34 :: es.flatMap (·.1)) ++ xs)) (hb : Below B W0 w2) : SRel2 B W0 Y v2 (i + 1) (es ++ [(e, Y[i])]) w2 := by
  subst he hm hx hfl
  refine ⟨by rw [List.length_append, h.len]; rfl, by omega, ?_, ?_, ?_, ?_, hb⟩
  · rw [List.map_append, h.map, take_snoc Y i hlt]
    rfl
  · intro x hx
    rcases List.mem_append.1 hx with hx | hx
    · exact h.all x hx
    · simp at hx
      subst hx
      exact encB_writes K _
  · have e1 : ([(encB K Y[i], Y[i])] : List (List UInt8 × UInt8)).flatMap (·.1) = encB K Y[i] := by simp
    rw [List.flatMap_append, List.length_append, e1]
    have := h.small
    have := encB_len K Y[i]
    omega
  · rw [List.flatMap_append, List.length_append, ← Nat.add_assoc]
    have e1 : ([(encB K Y[i], Y[i])] : List (List UInt8 × UInt8)).flatMap (·.1) = encB K Y[i] := by simp
    rw [e1]
    have e2 : Lib.byteCells (34 :: (es.flatMap (·.1) ++ encB K Y[i])) = Lib.byteCells (34 :: es.flatMap (·.1)) ++ Lib.byteCells (encB K Y[i]) := by simp [Lib.byteCells]
    rw [e2]
    exact hown
set_option maxRecDepth 100000 in
theorem string_walk (X : ByteArray) (p : Option Addr) (len cap : Nat) (w : World) (he : Errs w) (hlen : len ≤ maxLen) (hB : Bys w p len) : Calls Tryd.prog 3 #[.string X, .slice p len cap] w fun e w' => e = .returned (.bool true) ∧ Below w.heap.size w w' := by
  have HE := Lib.hid he
  clear he
  obtain ⟨bn, hbn⟩ : ∃ bn, decide ((256 : Int) < (X.size : Int)) = bn := ⟨_, rfl⟩
  obtain ⟨Y, hY⟩ : ∃ Y : ByteArray, Y = if bn = true then X.extract 0 256 else X := ⟨_, rfl⟩
  have HY := Lib.hid hY
  have HBN := Lib.hid hbn
  obtain ⟨i0, hi, hz0, hz1, hz2⟩ := info_parts infoByte
  have hYs : Y.size ≤ 256 := by
    rw [hY]
    cases bn
    · simp at hbn; simp; omega
    · simp; omega
  have HB := Lib.hid hB
  clear hY hB
  go_enter Tryd.func3, Tryd.ntmps3
  go_upto_if 17 with fail
  go_cut [0] from 18 to 19 (fun s0 wx => s0 = .string Y ∧ wx = w)
  case first =>
    clear hbn
    cases bn
    · go_wp2_with fail
      go_meet
      case rel => exact ⟨by rw [HY.out]; rfl, rfl⟩
    · have v256 : 256 ≤ X.size := by have := HBN.out; simp at this; omega
      go_wp2_with fail
      go_meet
      case rel => exact ⟨by rw [HY.out]; rfl, rfl⟩
  case rest =>
    obtain ⟨rfl, rfl⟩ := hcut
    clear hbn HBN HY
    have hm1 : 0 + 1 ≤ maxLen := by unfold maxLen; omega
    go_wp2_with (at_builtin; refine wpList_append_own _ rfl _ _ 22 rfl wc.heap.size 5 i0 (.int .u8 0) 1 1 Tryd.underlying22 hi hz0 hz1 hz2 rfl (by decide) _ _ _ rfl (World.ownsRow_nil _ _ _ _) ⟨wc.heap.size, 0, none⟩ 1 1 (u8s [34]) rfl rfl (lit_cells _ _ _) (u8s_one _) hm1 (by omega) (by simp) ?_; intro v1 w1 hown1 hgrow1 _; refine Hid.out ?_)
    refine Lib.hid ?_
    have hnx1 : Below wc.heap.size wc w1 := ((Below.refl _ _).alloc (Nat.le_refl _) _).grown hgrow1 (by simp) (fun k hk => by cases hk)
    simp only [Nat.zero_add, List.nil_append] at hown1
    clear hgrow1 hm1
    go_wp2
    go_loopw [5, 6] (fun v iv wr => ∃ (i : Nat) (es : List (List UInt8 × UInt8)), iv = .int .i64 i ∧ SRel2 wc.heap.size wc Y v i es wr) (fun _ iv _ => Y.size - (intOf iv).toNat)
    case atStart => exact ⟨0, [], rfl, rfl, Nat.zero_le _, by simp, (by intro x hx; cases hx), by simp, by simpa [Lib.byteCells, u8s] using hown1, hnx1⟩
    case round =>
      obtain ⟨i, es, rfl, hrel⟩ := hrel
      have HR0 := Lib.hid hrel
      have hle := hrel.le
      have HBW := Lib.hid hrel.below
      obtain ⟨fl, hfl⟩ : ∃ fl, fl = (es.flatMap (·.1)).length := ⟨_, rfl⟩
      have HOWN := Lib.hid hrel.own
      rw [← hfl] at HOWN
      have HFLN := Lib.hid hfl
      clear hrel hfl
      by_cases hlt : i < Y.size
      · have hc := Y[i].toNat_lt
        obtain ⟨n, hn⟩ : ∃ n : Nat, n = Y[i].toNat := ⟨_, rfl⟩
        have E0 : (Y[i].toNat : Int) = n := by rw [hn]
        have hc : n < 256 := by rw [hn]; exact Y[i].toNat_lt
        have HN := Lib.hid hn
        obtain ⟨bl, hbl⟩ : ∃ bl, decide (i < len) = bl := ⟨_, rfl⟩
        have HBL := Lib.hid hbl
        clear hn
        go_upto_if 35 with fail
        go_cut [8] from 36 to 45 (fun s8 wx => ∃ K : Nat, K < 3 ∧ s8 = .int .i64 K ∧ wx = wr)
        case first =>
          clear hbl
          cases bl
          · go_wp2_with fail
            go_meet
            case rel => exact ⟨0, by omega, rfl, rfl⟩
          · have hil : i < len := by have := HBL.out; simpa using this
            obtain ⟨b, o, x, rfl, hx, hcell⟩ := (HB.out.below HBW.out) i hil
            have hil2 : (i : Int) < (len : Int) := by omega
            go_wp2_with fail
            go_meet
            case rel => exact ⟨x % 3, by omega, by simp, rfl⟩
        case rest =>
          obtain ⟨K, hK, rfl, rfl⟩ := hcut
          have hsm : fl ≤ 1024 := by have := HR0.out.small; have := HFLN.out; omega
          have HM1 : Hid (∀ m, m ≤ 4 → 1 + fl + m ≤ maxLen) := fun m hm => by unfold maxLen; omega
          have HM2 : Hid (∀ m, m ≤ 4 → (1 + fl + m) * 1 ≤ 140737488355328) := fun m hm => by omega
          have HSZ : Hid (∀ o : Obj, _ ≤ (wc.alloc o).heap.size) := fun o => Nat.le_trans HBW.out.size (by simp)
          have hnn : Y[i].toNat = n := HN.out.symm
          clear hsm
          have hq10 : Y[i] = 10 ↔ n = 10 := ⟨fun h => by rw [← hnn, h]; rfl, fun h => UInt8.toNat_inj.1 (by rw [hnn, h]; rfl)⟩
          have hq9 : Y[i] = 9 ↔ n = 9 := ⟨fun h => by rw [← hnn, h]; rfl, fun h => UInt8.toNat_inj.1 (by rw [hnn, h]; rfl)⟩
          have hq34 : Y[i] = 34 ↔ n = 34 := ⟨fun h => by rw [← hnn, h]; rfl, fun h => UInt8.toNat_inj.1 (by rw [hnn, h]; rfl)⟩
          have hq92 : Y[i] = 92 ↔ n = 92 := ⟨fun h => by rw [← hnn, h]; rfl, fun h => UInt8.toNat_inj.1 (by rw [hnn, h]; rfl)⟩
          have HQ : Hid (∀ (K : Nat), encB K Y[i] = if K = 1 then [92, 120, dL (n / 16), uL (n % 16)] else if K = 2 ∧ n = 10 then [92, 110] else if K = 2 ∧ n = 9 then [92, 116] else if n = 34 ∨ n = 92 then [92, Y[i]] else if n < 32 ∨ 126 < n then [92, 120, uL (n / 16), dL (n % 16)] else [Y[i]]) := by
            intro K
            unfold encB
            simp only [hnn, hq10, hq9, hq34, hq92]
          have HNN := Lib.hid hnn
          clear hq10 hq9 hq34 hq92 hnn
          by_cases k1 : K = 1
          · have HEN : Hid ([92, 120, dL (n / 16), uL (n % 16)] = encB K Y[i]) := by show _ = _; rw [HQ.out, if_pos k1]
            have b1 : (K : Int) = 1 := by omega
            clear k1
            have q0 : (0 : Int) ≤ (n : Int) / 16 := by omega
            have q1 : (n : Int) / 16 < 16 := by omega
            have r0 : (0 : Int) ≤ (n : Int) % 16 := by omega
            have r1 : (n : Int) % 16 < 16 := by omega
            have wq : IntKind.u8.wrap ((n : Int) / 16) = (n : Int) / 16 := wrap_u8 q0 (by omega)
            have tm : Int.tmod (n : Int) 16 = (n : Int) % 16 := Int.tmod_eq_emod_of_nonneg (by omega)
            have hd0 : ((n : Int) / 16).toNat < dS.size := by show _ < 16; omega
            have hu0 : ((n : Int) % 16).toNat < uS.size := by show _ < 16; omega
            have eD := dS_at ((n : Int) / 16) (n / 16) (by omega) (by omega) hd0
            have eU := uS_at ((n : Int) % 16) (n % 16) (by omega) (by omega) hu0
            go_wp2
            go_region_law (first | (refine step_append_lies _ rfl _ _ 22 rfl _ 5 i0 (.int .u8 0) 1 1 Tryd.underlying22 hi hz0 hz1 hz2 rfl (by decide) u5 _ _ rfl ((HOWN.out.alloc _).drew) ⟨wc.heap.size, 0, none⟩ 4 4 (u8s [92, 120, (dL (n / 16)).toNat, (uL (n % 16)).toNat]) rfl rfl (fun j u h => lit_cells wc _ _ j u h) (u8s_one _) (by decide) (HM1.out 4 (by omega)) (HM2.out 4 (by omega)) (HSZ.out _) (wc.heap.size + 1) (by simp) ?_; intro g cap2 w2 hown2 hgrow2 _ _))
            all_goals
              have hb2 := ((HBW.out.alloc HBW.out.size _).drew).grown hgrow2 (HSZ.out _) (fun k hk => (World.ownsRow.lt HOWN.out k hk).1)
              have HR := Lib.hid (HR0.out.next hlt [92, 120, dL (n / 16), uL (n % 16)] K HEN.out fl HFLN.out 4 rfl (xs := u8s [92, 120, (dL (n / 16)).toNat, (uL (n % 16)).toNat]) (by simp [u8s, Lib.byteCells]) hown2 hb2)
              clear hown2 hgrow2 hb2
              go_wp2
              go_roundw
              case rel => exact ⟨i + 1, _, by go_num, HR.out⟩
              case measure => simp [intOf]; omega
          · have b1 : ((K : Int) == 1) = false := by simp; omega
            by_cases k2 : K = 2 ∧ n = 10
            · have HEN : Hid ([92, 110] = encB K Y[i]) := by show _ = _; rw [HQ.out, if_neg k1, if_pos k2]
              have b2 : (K : Int) = 2 := by omega
              have c10 : (n : Int) = 10 := by omega
              clear k1 k2
              go_wp2_with (at_builtin; refine wpList_append_own _ rfl _ _ 22 rfl _ 5 i0 (.int .u8 0) 1 1 Tryd.underlying22 hi hz0 hz1 hz2 rfl (by decide) _ _ _ rfl (World.ownsRow.alloc HOWN.out _) ⟨wc.heap.size, 0, none⟩ 2 2 (u8s [92, 110]) rfl rfl (lit_cells _ _ _) (u8s_one _) (HM1.out 2 (by omega)) (HM2.out 2 (by omega)) (HSZ.out _) ?_; intro v2 w2 hown2 hgrow2 _; refine Hid.out ?_)
              refine Lib.hid ?_
              have hb2 := (HBW.out.alloc HBW.out.size _).grown hgrow2 (HSZ.out _) (fun k hk => (World.ownsRow.lt HOWN.out k hk).1)
              have HR := Lib.hid (HR0.out.next hlt [92, 110] K HEN.out fl HFLN.out 2 rfl (xs := u8s [92, 110]) (by rfl) hown2 hb2)
              clear hown2 hgrow2 hb2
              go_wp2
              go_roundw
              case rel => exact ⟨i + 1, _, by go_num, HR.out⟩
              case measure => simp [intOf]; omega
            · by_cases k3 : K = 2 ∧ n = 9
              · have HEN : Hid ([92, 116] = encB K Y[i]) := by show _ = _; rw [HQ.out, if_neg k1, if_neg k2, if_pos k3]
                have b2 : (K : Int) = 2 := by omega
                have c9 : (n : Int) = 9 := by omega
                clear k1 k2 k3
                go_wp2_with (at_builtin; refine wpList_append_own _ rfl _ _ 22 rfl _ 5 i0 (.int .u8 0) 1 1 Tryd.underlying22 hi hz0 hz1 hz2 rfl (by decide) _ _ _ rfl (World.ownsRow.alloc HOWN.out _) ⟨wc.heap.size, 0, none⟩ 2 2 (u8s [92, 116]) rfl rfl (lit_cells _ _ _) (u8s_one _) (HM1.out 2 (by omega)) (HM2.out 2 (by omega)) (HSZ.out _) ?_; intro v2 w2 hown2 hgrow2 _; refine Hid.out ?_)
                refine Lib.hid ?_
                have hb2 := (HBW.out.alloc HBW.out.size _).grown hgrow2 (HSZ.out _) (fun k hk => (World.ownsRow.lt HOWN.out k hk).1)
                have HR := Lib.hid (HR0.out.next hlt [92, 116] K HEN.out fl HFLN.out 2 rfl (xs := u8s [92, 116]) (by rfl) hown2 hb2)
                clear hown2 hgrow2 hb2
                go_wp2
                go_roundw
                case rel => exact ⟨i + 1, _, by go_num, HR.out⟩
                case measure => simp [intOf]; omega
              · have hg : ((K : Int) == 2) = false ∨ (((n : Int) == 10) = false ∧ ((n : Int) == 9) = false) := by
                  by_cases h : K = 2
                  · right
                    exact ⟨by simp; omega, by simp; omega⟩
                  · left
                    simp
                    omega
                have HC : Hid (u8s [92, (n : Int)] = Lib.byteCells [92, Y[i]]) := by show _ = _; simp [u8s, Lib.byteCells, HNN.out]
                have HC1 : Hid (u8s [(n : Int)] = Lib.byteCells [Y[i]]) := by show _ = _; simp [u8s, Lib.byteCells, HNN.out]
                by_cases k4 : n = 34 ∨ n = 92
                · have HEN : Hid ([92, Y[i]] = encB K Y[i]) := by show _ = _; rw [HQ.out, if_neg k1, if_neg k2, if_neg k3, if_pos k4]
                  clear k1 k2 k3
                  have hd : (n : Int) = 34 ∨ (n : Int) = 92 := by omega
                  clear k4
                  have hK : ((K : Int) == 2) = false ∨ ((K : Int) == 2) = true := by cases (K : Int) == 2 <;> simp
                  rcases hd with hd | hd <;> rcases hK with hK | hK
                  · have HC2 : Hid (u8s [92, 34] = Lib.byteCells [92, Y[i]]) := by have h0 := HC.out; rw [hd] at h0; exact h0
                    clear HC HC1
                    go_wp2_with (at_builtin; refine wpList_append_own _ rfl _ _ 22 rfl _ 5 i0 (.int .u8 0) 1 1 Tryd.underlying22 hi hz0 hz1 hz2 rfl (by decide) _ _ _ rfl (World.ownsRow.alloc HOWN.out _) ⟨wc.heap.size, 0, none⟩ 2 2 (u8s [92, 34]) rfl rfl (lit_cells _ _ _) (u8s_one _) (HM1.out 2 (by omega)) (HM2.out 2 (by omega)) (HSZ.out _) ?_; intro v2 w2 hown2 hgrow2 _; refine Hid.out ?_)
                    refine Lib.hid ?_
                    have hb2 := (HBW.out.alloc HBW.out.size _).grown hgrow2 (HSZ.out _) (fun k hk => (World.ownsRow.lt HOWN.out k hk).1)
                    have HR := Lib.hid (HR0.out.next hlt [92, Y[i]] K HEN.out fl HFLN.out 2 rfl (xs := u8s [92, 34]) (by exact HC2.out) hown2 hb2)
                    clear hown2 hgrow2 hb2
                    go_wp2
                    go_roundw
                    case rel => exact ⟨i + 1, _, by go_num, HR.out⟩
                    case measure => simp [intOf]; omega
                  · have HC2 : Hid (u8s [92, 34] = Lib.byteCells [92, Y[i]]) := by have h0 := HC.out; rw [hd] at h0; exact h0
                    clear HC HC1
                    go_wp2_with (at_builtin; refine wpList_append_own _ rfl _ _ 22 rfl _ 5 i0 (.int .u8 0) 1 1 Tryd.underlying22 hi hz0 hz1 hz2 rfl (by decide) _ _ _ rfl (World.ownsRow.alloc HOWN.out _) ⟨wc.heap.size, 0, none⟩ 2 2 (u8s [92, 34]) rfl rfl (lit_cells _ _ _) (u8s_one _) (HM1.out 2 (by omega)) (HM2.out 2 (by omega)) (HSZ.out _) ?_; intro v2 w2 hown2 hgrow2 _; refine Hid.out ?_)
                    refine Lib.hid ?_
                    have hb2 := (HBW.out.alloc HBW.out.size _).grown hgrow2 (HSZ.out _) (fun k hk => (World.ownsRow.lt HOWN.out k hk).1)
                    have HR := Lib.hid (HR0.out.next hlt [92, Y[i]] K HEN.out fl HFLN.out 2 rfl (xs := u8s [92, 34]) (by exact HC2.out) hown2 hb2)
                    clear hown2 hgrow2 hb2
                    go_wp2
                    go_roundw
                    case rel => exact ⟨i + 1, _, by go_num, HR.out⟩
                    case measure => simp [intOf]; omega
                  · have HC2 : Hid (u8s [92, 92] = Lib.byteCells [92, Y[i]]) := by have h0 := HC.out; rw [hd] at h0; exact h0
                    clear HC HC1
                    go_wp2_with (at_builtin; refine wpList_append_own _ rfl _ _ 22 rfl _ 5 i0 (.int .u8 0) 1 1 Tryd.underlying22 hi hz0 hz1 hz2 rfl (by decide) _ _ _ rfl (World.ownsRow.alloc HOWN.out _) ⟨wc.heap.size, 0, none⟩ 2 2 (u8s [92, 92]) rfl rfl (lit_cells _ _ _) (u8s_one _) (HM1.out 2 (by omega)) (HM2.out 2 (by omega)) (HSZ.out _) ?_; intro v2 w2 hown2 hgrow2 _; refine Hid.out ?_)
                    refine Lib.hid ?_
                    have hb2 := (HBW.out.alloc HBW.out.size _).grown hgrow2 (HSZ.out _) (fun k hk => (World.ownsRow.lt HOWN.out k hk).1)
                    have HR := Lib.hid (HR0.out.next hlt [92, Y[i]] K HEN.out fl HFLN.out 2 rfl (xs := u8s [92, 92]) (by exact HC2.out) hown2 hb2)
                    clear hown2 hgrow2 hb2
                    go_wp2
                    go_roundw
                    case rel => exact ⟨i + 1, _, by go_num, HR.out⟩
                    case measure => simp [intOf]; omega
                  · have HC2 : Hid (u8s [92, 92] = Lib.byteCells [92, Y[i]]) := by have h0 := HC.out; rw [hd] at h0; exact h0
                    clear HC HC1
                    go_wp2_with (at_builtin; refine wpList_append_own _ rfl _ _ 22 rfl _ 5 i0 (.int .u8 0) 1 1 Tryd.underlying22 hi hz0 hz1 hz2 rfl (by decide) _ _ _ rfl (World.ownsRow.alloc HOWN.out _) ⟨wc.heap.size, 0, none⟩ 2 2 (u8s [92, 92]) rfl rfl (lit_cells _ _ _) (u8s_one _) (HM1.out 2 (by omega)) (HM2.out 2 (by omega)) (HSZ.out _) ?_; intro v2 w2 hown2 hgrow2 _; refine Hid.out ?_)
                    refine Lib.hid ?_
                    have hb2 := (HBW.out.alloc HBW.out.size _).grown hgrow2 (HSZ.out _) (fun k hk => (World.ownsRow.lt HOWN.out k hk).1)
                    have HR := Lib.hid (HR0.out.next hlt [92, Y[i]] K HEN.out fl HFLN.out 2 rfl (xs := u8s [92, 92]) (by exact HC2.out) hown2 hb2)
                    clear hown2 hgrow2 hb2
                    go_wp2
                    go_roundw
                    case rel => exact ⟨i + 1, _, by go_num, HR.out⟩
                    case measure => simp [intOf]; omega
                · have b34 : ((n : Int) == 34) = false := by simp; omega
                  have b92 : ((n : Int) == 92) = false := by simp; omega
                  by_cases k5 : n < 32 ∨ 126 < n
                  · have HEN : Hid ([92, 120, uL (n / 16), dL (n % 16)] = encB K Y[i]) := by show _ = _; rw [HQ.out, if_neg k1, if_neg k2, if_neg k3, if_neg k4, if_pos k5]
                    clear k1 k2 k3 k4
                    have q0 : (0 : Int) ≤ (n : Int) / 16 := by omega
                    have q1 : (n : Int) / 16 < 16 := by omega
                    have r0 : (0 : Int) ≤ (n : Int) % 16 := by omega
                    have r1 : (n : Int) % 16 < 16 := by omega
                    have wq : IntKind.u8.wrap ((n : Int) / 16) = (n : Int) / 16 := wrap_u8 q0 (by omega)
                    have tm : Int.tmod (n : Int) 16 = (n : Int) % 16 := Int.tmod_eq_emod_of_nonneg (by omega)
                    have hd0 : ((n : Int) / 16).toNat < uS.size := by show _ < 16; omega
                    have hu0 : ((n : Int) % 16).toNat < dS.size := by show _ < 16; omega
                    have eD := uS_at ((n : Int) / 16) (n / 16) (by omega) (by omega) hd0
                    have eU := dS_at ((n : Int) % 16) (n % 16) (by omega) (by omega) hu0
                    have hK : ((K : Int) == 2) = false ∨ ((K : Int) == 2) = true := by cases (K : Int) == 2 <;> simp
                    have hg2 : ((K : Int) == 2) = false ∨ (((K : Int) == 2) = true ∧ ((n : Int) == 10) = false ∧ ((n : Int) == 9) = false) := by
                      rcases hK with h | h
                      · exact .inl h
                      · rcases hg with g | g
                        · rw [g] at h; cases h
                        · exact .inr ⟨h, g⟩
                    clear hK hg HC HC1
                    rcases k5 with l1 | l1 <;> rcases hg2 with hK | ⟨hK, g1, g2⟩
                    all_goals
                      go_wp2
                      go_region_law (first | (refine step_append_lies _ rfl _ _ 22 rfl _ 5 i0 (.int .u8 0) 1 1 Tryd.underlying22 hi hz0 hz1 hz2 rfl (by decide) u5 _ _ rfl ((HOWN.out.alloc _).drew) ⟨wc.heap.size, 0, none⟩ 4 4 (u8s [92, 120, (uL (n / 16)).toNat, (dL (n % 16)).toNat]) rfl rfl (fun j u h => lit_cells wc _ _ j u h) (u8s_one _) (by decide) (HM1.out 4 (by omega)) (HM2.out 4 (by omega)) (HSZ.out _) (wc.heap.size + 1) (by simp) ?_; intro g cap2 w2 hown2 hgrow2 _ _))
                      all_goals
                        have hb2 := ((HBW.out.alloc HBW.out.size _).drew).grown hgrow2 (HSZ.out _) (fun k hk => (World.ownsRow.lt HOWN.out k hk).1)
                        have HR := Lib.hid (HR0.out.next hlt [92, 120, uL (n / 16), dL (n % 16)] K HEN.out fl HFLN.out 4 rfl (xs := u8s [92, 120, (uL (n / 16)).toNat, (dL (n % 16)).toNat]) (by simp [u8s, Lib.byteCells]) hown2 hb2)
                        clear hown2 hgrow2 hb2
                        go_wp2
                        go_roundw
                        case rel => exact ⟨i + 1, _, by go_num, HR.out⟩
                        case measure => simp [intOf]; omega
                  · have HEN : Hid ([Y[i]] = encB K Y[i]) := by show _ = _; rw [HQ.out, if_neg k1, if_neg k2, if_neg k3, if_neg k4, if_neg k5]
                    have l1 : 32 ≤ n := by omega
                    have l2 : n ≤ 126 := by omega
                    clear k1 k2 k3 k4 k5
                    rcases hg with g | ⟨g, g2⟩
                    · go_wp2_with (at_builtin; refine wpList_append_own _ rfl _ _ 22 rfl _ 5 i0 (.int .u8 0) 1 1 Tryd.underlying22 hi hz0 hz1 hz2 rfl (by decide) _ _ _ rfl (World.ownsRow.alloc HOWN.out _) ⟨wc.heap.size, 0, none⟩ 1 1 (u8s [(n : Int)]) rfl rfl (lit_cells _ _ _) (u8s_one _) (HM1.out 1 (by omega)) (HM2.out 1 (by omega)) (HSZ.out _) ?_; intro v2 w2 hown2 hgrow2 _; refine Hid.out ?_)
                      refine Lib.hid ?_
                      have hb2 := (HBW.out.alloc HBW.out.size _).grown hgrow2 (HSZ.out _) (fun k hk => (World.ownsRow.lt HOWN.out k hk).1)
                      have HR := Lib.hid (HR0.out.next hlt [Y[i]] K HEN.out fl HFLN.out 1 rfl (xs := u8s [(n : Int)]) (by exact HC1.out) hown2 hb2)
                      clear hown2 hgrow2 hb2
                      go_wp2
                      go_roundw
                      case rel => exact ⟨i + 1, _, by go_num, HR.out⟩
                      case measure => simp [intOf]; omega
                    · cases hK2 : ((K : Int) == 2)
                      · go_wp2_with (at_builtin; refine wpList_append_own _ rfl _ _ 22 rfl _ 5 i0 (.int .u8 0) 1 1 Tryd.underlying22 hi hz0 hz1 hz2 rfl (by decide) _ _ _ rfl (World.ownsRow.alloc HOWN.out _) ⟨wc.heap.size, 0, none⟩ 1 1 (u8s [(n : Int)]) rfl rfl (lit_cells _ _ _) (u8s_one _) (HM1.out 1 (by omega)) (HM2.out 1 (by omega)) (HSZ.out _) ?_; intro v2 w2 hown2 hgrow2 _; refine Hid.out ?_)
                        refine Lib.hid ?_
                        have hb2 := (HBW.out.alloc HBW.out.size _).grown hgrow2 (HSZ.out _) (fun k hk => (World.ownsRow.lt HOWN.out k hk).1)
                        have HR := Lib.hid (HR0.out.next hlt [Y[i]] K HEN.out fl HFLN.out 1 rfl (xs := u8s [(n : Int)]) (by exact HC1.out) hown2 hb2)
                        clear hown2 hgrow2 hb2
                        go_wp2
                        go_roundw
                        case rel => exact ⟨i + 1, _, by go_num, HR.out⟩
                        case measure => simp [intOf]; omega
                      · go_wp2_with (at_builtin; refine wpList_append_own _ rfl _ _ 22 rfl _ 5 i0 (.int .u8 0) 1 1 Tryd.underlying22 hi hz0 hz1 hz2 rfl (by decide) _ _ _ rfl (World.ownsRow.alloc HOWN.out _) ⟨wc.heap.size, 0, none⟩ 1 1 (u8s [(n : Int)]) rfl rfl (lit_cells _ _ _) (u8s_one _) (HM1.out 1 (by omega)) (HM2.out 1 (by omega)) (HSZ.out _) ?_; intro v2 w2 hown2 hgrow2 _; refine Hid.out ?_)
                        refine Lib.hid ?_
                        have hb2 := (HBW.out.alloc HBW.out.size _).grown hgrow2 (HSZ.out _) (fun k hk => (World.ownsRow.lt HOWN.out k hk).1)
                        have HR := Lib.hid (HR0.out.next hlt [Y[i]] K HEN.out fl HFLN.out 1 rfl (xs := u8s [(n : Int)]) (by exact HC1.out) hown2 hb2)
                        clear hown2 hgrow2 hb2
                        go_wp2
                        go_roundw
                        case rel => exact ⟨i + 1, _, by go_num, HR.out⟩
                        case measure => simp [intOf]; omega
      · have hii : i = Y.size := by omega
        obtain ⟨F, hF⟩ : ∃ F, F = es.flatMap (·.1) := ⟨_, rfl⟩
        have hFl : F.length = fl := by rw [hF]; exact HFLN.out.symm
        have hes : es.length ≤ 256 := by rw [HR0.out.len]; omega
        have hfl4 : fl ≤ 1024 := by have := HR0.out.small; have := HFLN.out; omega
        have hYe : es.map (·.2) = Y.data.toList := by rw [HR0.out.map, hii]; exact List.take_of_length_le (by simp)
        have hx1 : scanL (34 :: F) = .bad 52 0 := by rw [scanL_small (by simp; omega), hF]; exact scan_open 0 [] es HR0.out.all hes
        have hx2 : scanL (34 :: F ++ [34]) = .ok [(3, Y.data.toList, 0), (5, [], fl + 2)] := by
          rw [scanL_small (by simp; omega)]
          have := scan_str 0 [] es [] HR0.out.all hes
          rw [scan_nil, hYe, ← hF, hFl, Nat.zero_add] at this
          exact this
        have hown : wr.ownsRow wc.heap.size 5 1 u5 (34 :: F).length (Lib.byteCells (34 :: F)) := by
          have h1 := HOWN.out
          rw [← hF] at h1
          rw [show (34 :: F).length = 1 + fl by simp; omega]
          exact h1
        obtain ⟨A, hA⟩ : ∃ A, A = 34 :: F := ⟨_, rfl⟩
        rw [← hA] at hown hx1 hx2
        have hAl : A.length = fl + 1 := by rw [hA]; simp; omega
        obtain ⟨m, hm⟩ : ∃ m, m = A.length := ⟨_, rfl⟩
        rw [← hm] at hown hAl
        have HM := Lib.hid hm
        obtain ⟨S1, hS1⟩ : ∃ S1 : ByteArray, S1 = ⟨A.toArray⟩ := ⟨_, rfl⟩
        have hcv : (convert 22 9 u5).run Tryd.prog wr = .ok (.string S1) wr := by rw [hS1]; exact own_conv (by rw [← hm]; exact hown)
        have HSC1 : Hid (∀ wx, Below wc.heap.size wc wx → Calls Tryd.prog 9 #[.string S1] wx fun e w' => e = .returned (.tuple #[.slice none 0 0, .int .i64 0, .int .i64 52]) ∧ Below wx.heap.size wx w' ∧ Below wc.heap.size wc w') := fun wx hx => scan_bad_at S1 52 0 (by rw [hS1]; exact hx1) wc HE.out wx hx
        have hm1 : m + 1 ≤ maxLen := by unfold maxLen; omega
        have hm2 : (m + 1) * 1 ≤ 140737488355328 := by omega
        have hm3 : (m : Int) + 1 ≤ 2000 := by omega
        have HX2 := Lib.hid hx2
        have HAL := Lib.hid hAl
        have HOWN2 := Lib.hid hown
        clear hx1 hx2 hS1 hA hF hFl hes hfl4 hYe hown hm hAl hii
        go_wp2_with fail
        refine (HSC1.out _ HBW.out).mono ?_
        rintro e w2 ⟨rfl, hb2, hB2⟩
        have HOW2 : Hid (w2.ownsRow wc.heap.size 5 1 u5 m (Lib.byteCells A)) := own_below HOWN2.out hb2
        have HB2 := Lib.hid hB2
        have HSZ2 : Hid (∀ o : Obj, wc.heap.size ≤ (w2.alloc o).heap.size) := fun o => Nat.le_trans hB2.size (by simp)
        clear hb2 hB2
        go_wp2_with (at_builtin; refine wpList_append_own _ rfl _ _ 22 rfl _ 5 i0 (.int .u8 0) 1 1 Tryd.underlying22 hi hz0 hz1 hz2 rfl (by decide) _ _ _ rfl (World.ownsRow.alloc HOW2.out _) ⟨w2.heap.size, 0, none⟩ 1 1 (u8s [34]) rfl rfl (lit_cells _ _ _) (u8s_one _) hm1 hm2 (HSZ2.out _) ?_; intro v3 w3 hown3 hgrow3 _; refine Hid.out ?_)
        refine Lib.hid ?_
        have hb3 := (HB2.out.alloc HB2.out.size _).grown hgrow3 (HSZ2.out _) (fun k hk => (World.ownsRow.lt HOW2.out k hk).1)
        have hown3' : w3.ownsRow wc.heap.size 5 1 v3 (A ++ [34]).length (Lib.byteCells (A ++ [34])) := by
          rw [List.length_append, ← HM.out]
          have e : Lib.byteCells (A ++ [34]) = Lib.byteCells A ++ u8s [34] := by simp [Lib.byteCells, u8s]
          rw [e]
          exact hown3
        obtain ⟨S2, hS2⟩ : ∃ S2 : ByteArray, S2 = ⟨(A ++ [34]).toArray⟩ := ⟨_, rfl⟩
        have hcv3 : (convert 22 9 v3).run Tryd.prog w3 = .ok (.string S2) w3 := by rw [hS2]; exact own_conv hown3'
        have hlen3 : ∀ wx, (Builtin.len_ #[22] 3 #[v3]).run Tryd.prog wx = .ok (.int .i64 ((m : Int) + 1)) wx := by
          intro wx
          have := own_len hown3' wx
          rw [List.length_append, ← HM.out, List.length_singleton, Int.natCast_add] at this
          exact this
        have HSC2 : Hid (∀ wx, Below wc.heap.size wc wx → Calls Tryd.prog 9 #[.string S2] wx fun e w' => (∃ g cap, e = .returned (.tuple #[.slice (some ⟨g, 0, none⟩) 2 cap, .int .i64 0, .int .i64 0]) ∧ Lie w' g [(3, Y.data.toList, 0), (5, [], m + 1)]) ∧ Below wx.heap.size wx w' ∧ Below wc.heap.size wc w') := fun wx hx => by
          rw [HAL.out]
          exact scan_ok_at S2 [(3, Y.data.toList, 0), (5, [], fl + 2)] (by simp) (by rw [hS2]; exact HX2.out) wc HE.out wx hx
        have HB3 := Lib.hid hb3
        have HL3 := Lib.hid hlen3
        clear hown3 hgrow3 hb3 hown3' hS2 hlen3
        go_wp2_with fail
        refine (HSC2.out _ HB3.out).mono ?_
        rintro e w4 ⟨⟨g4, k4, rfl, hL4⟩, hb4, hB4⟩
        have c0 := hL4 0 _ rfl
        have c1 := hL4 1 _ rfl
        have c2 := hL4 2 _ rfl
        have c3 := hL4 3 _ rfl
        have c4 := hL4 4 _ rfl
        have c5 := hL4 5 _ rfl
        have hYY : (⟨Y.data.toList.toArray⟩ : ByteArray) = Y := bytes_ext' (by simp)
        simp only [hYY] at c1
        have hl3 := HL3.out
        clear hL4 hb4 hYY
        have t1 := teq_self 3 Y 0
        have t2 := teq_self 5 ⟨#[]⟩ ((m : Int) + 1)
        go_wp2_with fail
        go_ret
        exact ⟨rfl, hB4⟩
end Go.Proofs.YtdafnkfnaknoiaaDoor
