/- Contract of the catalog's Check. -/
import Derived.Test.YtpfpganlghjhjaaDoorA9
import Derived.Test.YtpfpganlghjhjaaDoorB1
namespace Go.Proofs.YtpfpganlghjhjaaDoor
open Go Go.RowKit
set_option maxHeartbeats 4000000
set_option linter.unusedVariables false
set_option linter.unusedSimpArgs false
/-- a value, as its four parts -/
structure V4 where
  k : Int
  n : Int
  s : ByteArray
  b : Bool
/-- a row of values lies there -/
def ValRow (w : World) (p : Option Addr) (vl : List V4) : Prop := ∀ i (h : i < vl.length), ∃ b o, p = some ⟨b, o, none⟩ ∧ w.cell? ⟨b, o + i * 4, none⟩ = some (.int .i64 vl[i].k) ∧ w.cell? ⟨b, o + i * 4 + 1, none⟩ = some (.int .i64 vl[i].n) ∧ w.cell? ⟨b, o + i * 4 + 2, none⟩ = some (.string vl[i].s) ∧ w.cell? ⟨b, o + i * 4 + 3, none⟩ = some (.bool vl[i].b)
theorem ValRow.below {w w' : World} {p : Option Addr} {vl : List V4} (h : ValRow w p vl) (hb : Below w.heap.size w w') : ValRow w' p vl := by
  intro i hi
  obtain ⟨b, o, e, h1, h2, h3, h4⟩ := h i hi
  have hl := lt_of_cell h1
  exact ⟨b, o, e, (hb.cell (p := ⟨b, o + i * 4, none⟩) hl).trans h1, (hb.cell (p := ⟨b, o + i * 4 + 1, none⟩) hl).trans h2, (hb.cell (p := ⟨b, o + i * 4 + 2, none⟩) hl).trans h3, (hb.cell (p := ⟨b, o + i * 4 + 3, none⟩) hl).trans h4⟩
/-- what is wrong with a value at its attribute -/
def valF (v : V4) (kd : Int) : Int := if v.k ≠ kd then 10 else if valid v.k v.n v.s v.b = false then 12 else 0
def valAt (vl : List V4) (l : List (ByteArray × Int)) (i : Nat) : Int := match vl[i]?, l[i]? with | some v, some a => valF v a.2 | _, _ => 0
theorem valAt_is {vl : List V4} {l : List (ByteArray × Int)} {i : Nat} (h1 : i < vl.length) (h2 : i < l.length) : valAt vl l i = valF vl[i] l[i].2 := by
  unfold valAt
  rw [List.getElem?_eq_getElem h1, List.getElem?_eq_getElem h2]
/-- what is wrong with an event whose type is declared with these attributes -/
def CheckIs (time : Int) (vl : List V4) (l : List (ByteArray × Int)) (E : Int) : Prop :=
  ((time < 0 ∨ 4611686018427387904 < time) ∧ E = 23) ∨
  (0 ≤ time ∧ time ≤ 4611686018427387904 ∧ vl.length ≠ l.length ∧ E = 22) ∨
  (0 ≤ time ∧ time ≤ 4611686018427387904 ∧ vl.length = l.length ∧ E = 0 ∧ ∀ k, k < vl.length → valAt vl l k = 0) ∨
  (0 ≤ time ∧ time ≤ 4611686018427387904 ∧ vl.length = l.length ∧ ∃ k, k < vl.length ∧ valAt vl l k = E ∧ E ≠ 0 ∧ ∀ j, j < k → valAt vl l j = 0)
set_option maxRecDepth 100000 in
/-- no such type -/
theorem check_none (typ : ByteArray) (time : Int) (p : Option Addr) (n c : Nat) (cB mB : Nat) (es : Array MapEntry) (clock : Nat) (w : World) (hc : Cat w cB mB es clock) (hf : Found es typ none) :
    Calls Tryd.prog 10 #[.pointer (some ⟨cB, 0, none⟩), .agg #[.string typ, .int .i64 time, .slice p n c]] w fun e w' => e = .returned (.int .i64 21) ∧ Below w.heap.size w w' := by
  obtain ⟨w1, hw1⟩ : ∃ x, x = w.alloc (Obj.cells #[.string typ, .int .i64 time, .slice p n c] 33) := ⟨_, rfl⟩
  have hb1 : Below w.heap.size w w1 := by rw [hw1]; exact (Below.refl _ _).alloc (Nat.le_refl _) _
  have x0 : w1.cell? ⟨w.heap.size, 0, none⟩ = some (.string typ) := by rw [hw1]; simp [go_sem]
  have z1 : w.heap.size < w1.heap.size := by rw [hw1]; simp
  have hC1 := hc.below hb1
  have y0 := hC1.cell
  have zc := hC1.lt.1
  have zm := hC1.lt.2
  have hh := hC1.heap
  have hlk : ∀ wx : World, wx.heap[mB]? = some (.map es clock) → (Instr.lookup 56 (.map (some mB)) (.string typ) true).run Tryd.prog wx = .ok (.tuple #[.agg #[.string ⟨#[]⟩, .slice none 0 0], .bool false]) wx := fun wx hx => run_look hx hf
  have HS : Hid (∀ wx, Below w1.heap.size w1 wx → Below w1.heap.size w1 wx ∧ wx.cell? ⟨cB, 0, none⟩ = some (.map (some mB)) ∧ wx.cell? ⟨w.heap.size, 0, none⟩ = some (.string typ) ∧ wx.heap[mB]? = some (.map es clock)) := fun wx hx => ⟨hx, (hx.cell (p := ⟨cB, 0, none⟩) zc).trans y0, (hx.cell (p := ⟨w.heap.size, 0, none⟩) z1).trans x0, heap_below hx zm hh⟩
  have HB1 := Lib.hid hb1
  have HW1 := Lib.hid hw1
  clear hb1 hC1 hc hf hw1
  go_enter Tryd.func10, Tryd.ntmps10
  go_upto_region 1 with fail
  rw [← HW1.out]
  go_cut [6] from 9 to 59 (fun s wx => s = .bool false ∧ Below w1.heap.size w1 wx)
  case first =>
    go_region_held3 (fun wx => Below w1.heap.size w1 wx ∧ wx.cell? ⟨cB, 0, none⟩ = some (.map (some mB)) ∧ wx.cell? ⟨w.heap.size, 0, none⟩ = some (.string typ) ∧ wx.heap[mB]? = some (.map es clock))
      ((refine HS.out _ ?_; repeat (first | assumption | exact held_below (by assumption) | exact Below.refl _ _ | apply Below.drew | refine Below.alloc ?_ (by first | exact Nat.le_refl _ | assumption | omega | (simp [World.setCell]; done) | (simp [World.setCell]; omega)) _ | refine Below.setCell ?_ (by first | exact Nat.le_refl _ | omega | (simp; done) | (simp; omega)) _)))
      (first | (go_at_call 99; fail))
    all_goals
      go_wp2_with fail
      go_meet
      first
      | exact ⟨rfl, held_below (by assumption)⟩
      | exact ⟨rfl, by assumption⟩
  case rest =>
  obtain ⟨rfl, hbx⟩ := hcut
  go_wp2
  go_ret
  exact ⟨rfl, HB1.out.trans (hbx.mono (by omega))⟩
set_option maxRecDepth 100000 in
theorem check_some (typ : ByteArray) (time : Int) (p : Option Addr) (c : Nat) (vl : List V4) (i0 : Nat) (a : ByteArray) (ap : Option Addr) (ac : Nat) (l : List (ByteArray × Int)) (cB mB : Nat) (es : Array MapEntry) (clock : Nat) (w : World) (hvm : vl.length ≤ maxLen) (hlm : l.length ≤ maxLen)
    (hc : Cat w cB mB es clock) (hf : Found es typ (some (i0, .agg #[.string a, .slice ap l.length ac]))) (hv : ValRow w p vl) (hl : AtRow w ap l) :
    Calls Tryd.prog 10 #[.pointer (some ⟨cB, 0, none⟩), .agg #[.string typ, .int .i64 time, .slice p vl.length c]] w fun e w' => ∃ E, e = .returned (.int .i64 E) ∧ Below w.heap.size w w' ∧ CheckIs time vl l E := by
  obtain ⟨n, hn⟩ : ∃ n, n = vl.length := ⟨_, rfl⟩
  obtain ⟨m, hm⟩ : ∃ m, m = l.length := ⟨_, rfl⟩
  rw [← hn] at hvm ⊢
  rw [← hm] at hf hlm
  unfold maxLen at hvm hlm
  have HNN := Lib.hid hn
  have HMM := Lib.hid hm
  obtain ⟨w1, hw1⟩ : ∃ x, x = w.alloc (Obj.cells #[.string typ, .int .i64 time, .slice p n c] 33) := ⟨_, rfl⟩
  have hb1 : Below w.heap.size w w1 := by rw [hw1]; exact (Below.refl _ _).alloc (Nat.le_refl _) _
  have x0 : w1.cell? ⟨w.heap.size, 0, none⟩ = some (.string typ) := by rw [hw1]; simp [go_sem]
  have x1 : w1.cell? ⟨w.heap.size, 1, none⟩ = some (.int .i64 time) := by rw [hw1]; simp [go_sem]
  have x2 : w1.cell? ⟨w.heap.size, 2, none⟩ = some (.slice p n c) := by rw [hw1]; simp [go_sem]
  have z1 : w.heap.size < w1.heap.size := by rw [hw1]; simp
  have hC1 := hc.below hb1
  have y0 := hC1.cell
  have zc := hC1.lt.1
  have zm := hC1.lt.2
  have hh := hC1.heap
  have HV1 := Lib.hid (hv.below hb1)
  have HL1 := Lib.hid (hl.below hb1)
  have hlk : ∀ wx : World, wx.heap[mB]? = some (.map es clock) → (Instr.lookup 56 (.map (some mB)) (.string typ) true).run Tryd.prog wx = .ok (.tuple #[.agg #[.string a, .slice ap m ac], .bool true]) wx := fun wx hx => run_look hx hf
  have HS : Hid (∀ wx, Below w1.heap.size w1 wx → Below w1.heap.size w1 wx ∧ wx.cell? ⟨cB, 0, none⟩ = some (.map (some mB)) ∧ wx.cell? ⟨w.heap.size, 0, none⟩ = some (.string typ) ∧ wx.heap[mB]? = some (.map es clock)) := fun wx hx => ⟨hx, (hx.cell (p := ⟨cB, 0, none⟩) zc).trans y0, (hx.cell (p := ⟨w.heap.size, 0, none⟩) z1).trans x0, heap_below hx zm hh⟩
  have HB1 := Lib.hid hb1
  have HW1 := Lib.hid hw1
  clear hb1 hC1 hc hf hw1 hv hl hn hm
  go_enter Tryd.func10, Tryd.ntmps10
  go_upto_region 1 with fail
  rw [← HW1.out]
  go_cut [5, 6] from 9 to 59 (fun s5 s wx => ∃ B, s5 = .pointer (some ⟨B, 0, none⟩) ∧ s = .bool true ∧ Below w1.heap.size w1 wx ∧ wx.cell? ⟨B, 1, none⟩ = some (.slice ap m ac) ∧ B < wx.heap.size)
  case first =>
    go_region_held3 (fun wx => Below w1.heap.size w1 wx ∧ wx.cell? ⟨cB, 0, none⟩ = some (.map (some mB)) ∧ wx.cell? ⟨w.heap.size, 0, none⟩ = some (.string typ) ∧ wx.heap[mB]? = some (.map es clock))
      ((refine HS.out _ ?_; repeat (first | assumption | exact held_below (by assumption) | exact Below.refl _ _ | apply Below.drew | refine Below.alloc ?_ (by first | exact Nat.le_refl _ | assumption | omega | (simp [World.setCell]; done) | (simp [World.setCell]; omega)) _ | refine Below.setCell ?_ (by first | exact Nat.le_refl _ | omega | (simp; done) | (simp; omega)) _)))
      (first | (go_at_call 99; fail))
    all_goals
      go_wp2_with fail
      go_meet
      first
      | exact ⟨_, rfl, rfl, held_below (by assumption), by simp [go_sem], by simp⟩
      | exact ⟨_, rfl, rfl, by assumption, by simp [go_sem], by simp⟩
  case rest =>
  obtain ⟨B, rfl, rfl, hbx, t1, hB⟩ := hcut
  obtain ⟨wp, ewd⟩ : ∃ x, x = wc := ⟨_, rfl⟩
  subst ewd
  have u1 := (hbx.cell (p := ⟨w.heap.size, 1, none⟩) z1).trans x1
  have u2 := (hbx.cell (p := ⟨w.heap.size, 2, none⟩) z1).trans x2
  have zw : w.heap.size < wp.heap.size := by have := hbx.size; omega
  have HV2 := Lib.hid (HV1.out.below hbx)
  have HL2 := Lib.hid (HL1.out.below hbx)
  have HBP : Hid (Below w.heap.size w wp) := HB1.out.trans (hbx.mono (by omega))
  clear x0 x1 x2 y0 hh hlk HS hbx HV1 HL1 HW1 zc zm
  by_cases ht0 : time < 0
  · have d0 : decide (time < 0) = true := by simpa using ht0
    have HT := Lib.hid ht0
    clear ht0
    go_wp2
    go_ret
    exact ⟨23, rfl, HBP.out, .inl ⟨.inl HT.out, rfl⟩⟩
  · have d0 : decide (time < 0) = false := by simpa using ht0
    by_cases ht1 : 4611686018427387904 < time
    · have d1 : decide ((4611686018427387904 : Int) < time) = true := by simpa using ht1
      have HT := Lib.hid ht1
      clear ht0 ht1
      go_wp2
      go_ret
      exact ⟨23, rfl, HBP.out, .inl ⟨.inr HT.out, rfl⟩⟩
    · have d1 : decide ((4611686018427387904 : Int) < time) = false := by simpa using ht1
      have HT0 : Hid (0 ≤ time) := by show _ ≤ _; omega
      have HT1 : Hid (time ≤ 4611686018427387904) := by show _ ≤ _; omega
      clear ht0 ht1
      by_cases hnm : n = m
      · subst hnm
        have dn : ((n : Int) != (n : Int)) = false := by simp
        go_wp2
        go_loopw [42] (fun i wr => ∃ k : Nat, k ≤ n ∧ i = .int .i64 k ∧ Below wp.heap.size wp wr ∧ ∀ j, j < k → valAt vl l j = 0) (fun i _ => n - (intOf i).toNat)
        case atStart => exact ⟨0, Nat.zero_le _, rfl, Below.refl _ _, fun j hj => absurd hj (Nat.not_lt_zero _)⟩
        case round =>
          obtain ⟨k, hk, rfl, hb, hno⟩ := hrel
          have HNO := Lib.hid hno
          have HBR := Lib.hid hb
          have zs := hb.size
          clear hno
          by_cases hlt : k < n
          · have hkv : k < vl.length := by rw [← HNN.out]; exact hlt
            have hkl : k < l.length := by rw [← HMM.out]; exact hlt
            obtain ⟨b, o, rfl, c0, c1, c2, c3⟩ := HV2.out k hkv
            obtain ⟨b', o', rfl, e0, e1⟩ := HL2.out k hkl
            have q0 := lt_of_cell c0
            have q1 := lt_of_cell e0
            have HF : Hid (valAt vl l k = valF vl[k] l[k].2) := valAt_is hkv hkl
            obtain ⟨V, hV⟩ : ∃ V, V = vl[k] := ⟨_, rfl⟩
            obtain ⟨kd, hkd⟩ : ∃ kd, kd = l[k].2 := ⟨_, rfl⟩
            rw [← hV] at c0 c1 c2 c3 HF
            rw [← hkd] at e1 HF
            have f0 := (hb.cell (p := ⟨b, o + k * 4, none⟩) (by exact q0)).trans c0
            have f1 := (hb.cell (p := ⟨b, o + k * 4 + 1, none⟩) (by exact q0)).trans c1
            have f2 := (hb.cell (p := ⟨b, o + k * 4 + 2, none⟩) (by exact q0)).trans c2
            have f3 := (hb.cell (p := ⟨b, o + k * 4 + 3, none⟩) (by exact q0)).trans c3
            have g1 := (hb.cell (p := ⟨b', o' + k * 2 + 1, none⟩) (by exact q1)).trans e1
            have s1 := (hb.cell (p := ⟨B, 1, none⟩) (by exact hB)).trans t1
            have r0 : b < wr.heap.size := by omega
            have r1 : b' < wr.heap.size := by omega
            have r2 : B < wr.heap.size := by omega
            obtain ⟨vk, vn, vs, vb⟩ := V
            simp only at f0 f1 f2 f3
            clear c0 c1 c2 c3 e0 e1 hV hkd hb t1 u1 u2
            have v0 : (0 : Int) ≤ (k : Int) := by omega
            have v1 : (k : Int) < (n : Int) := by omega
            have HBA : Hid (Below w.heap.size w (wr.alloc (Obj.cells #[.int .i64 vk, .int .i64 vn, .string vs, .bool vb] 35))) := (HBP.out.trans (HBR.out.mono (by omega))).alloc (by omega) _
            by_cases hk' : vk = kd
            · subst hk'
              have dk : (vk != vk) = false := by simp
              cases hval : valid vk vn vs vb
              · have HVL := Lib.hid hval
                go_wp2_with fail
                go_quiet (fail)
                go_wp2_with (go_at_call 21; refine (valid_any _ _ _ _ _).mono ?_; rintro e w9 ⟨rfl, hb9⟩)
                go_ret
                refine ⟨12, rfl, (below_drewN HBA.out _).trans (hb9.mono (by simp [World.drewN]; omega)), .inr (.inr (.inr ⟨HT0.out, HT1.out, by rw [← HNN.out, ← HMM.out], k, hkv, ?_, by decide, HNO.out⟩))⟩
                rw [HF.out]
                unfold valF
                rw [if_neg (by simp), if_pos HVL.out]
              · have HVL := Lib.hid hval
                go_wp2_with fail
                go_quiet (fail)
                go_wp2_with (go_at_call 21; refine (valid_any _ _ _ _ _).mono ?_; rintro e w9 ⟨rfl, hb9⟩)
                go_roundw
                case rel =>
                  refine ⟨k + 1, by omega, by go_num, (below_drewN (HBR.out.alloc zs _) _).trans (hb9.mono (by simp [World.drewN]; omega)), fun j hj => ?_⟩
                  by_cases hjk : j = k
                  · subst hjk
                    rw [HF.out]
                    unfold valF
                    rw [if_neg (by simp), if_neg (by rw [HVL.out]; decide)]
                  · exact HNO.out j (by omega)
                case measure => simp [intOf]; omega
            · have dk : (vk != kd) = true := by simp [hk']
              have HKD := Lib.hid hk'
              clear hk'
              go_wp2_with fail
              go_quiet (fail)
              go_wp2
              go_ret
              refine ⟨10, rfl, below_drewN HBA.out _, .inr (.inr (.inr ⟨HT0.out, HT1.out, by rw [← HNN.out, ← HMM.out], k, hkv, ?_, by decide, HNO.out⟩))⟩
              rw [HF.out]
              unfold valF
              rw [if_pos HKD.out]
          · have hkk : k = n := by omega
            have HKK := Lib.hid hkk
            clear hkk
            go_wp2
            go_ret
            refine ⟨0, rfl, HBP.out.trans (HBR.out.mono (by omega)), .inr (.inr (.inl ⟨HT0.out, HT1.out, by rw [← HNN.out, ← HMM.out], rfl, fun j hj => HNO.out j ?_⟩))⟩
            rw [HKK.out, HNN.out]
            exact hj
      · have dn : ((n : Int) != (m : Int)) = true := by simp; omega
        have HNE := Lib.hid hnm
        clear hnm
        go_wp2
        go_ret
        exact ⟨22, rfl, HBP.out, .inr (.inl ⟨HT0.out, HT1.out, by rw [← HNN.out, ← HMM.out]; exact HNE.out, rfl⟩)⟩
end Go.Proofs.YtpfpganlghjhjaaDoor
