/- What is wrong with an event, by its type: isTime, fault; the law's comparison of events. -/
import Derived.Deep.RegionHeld3
import Derived.LoopTactic
import Derived.Test.YtkficmbkoinjjaaGreatDoorE1
namespace Go.Proofs.YtkficmbkoinjjaaGreatDoor
open Go Go.RowKit
open V
set_option maxHeartbeats 4000000
set_option linter.unusedVariables false
set_option linter.unusedSimpArgs false
def TimeIs (w : World) (n : Int) (e : Ending) (w' : World) : Prop := ∃ b, e = .returned (.bool b) ∧ Below w.heap.size w w' ∧ (b = true ↔ 0 ≤ n ∧ n ≤ 4611686018427387904)
theorem isTime_any (n : Int) (w : World) : Calls Tryz.prog 32 #[.int .i64 n] w (TimeIs w n) := by
  by_cases h0 : 0 ≤ n
  · have d0 : decide (0 ≤ n) = true := by simpa using h0
    by_cases h1 : n ≤ 4611686018427387904
    · have d1 : decide (n ≤ 4611686018427387904) = true := by simpa using h1
      have HH := Lib.hid (And.intro h0 h1)
      clear h0 h1
      go_enter Tryz.func32, Tryz.ntmps32
      go_wp2
      go_ret
      exact ⟨true, rfl, Below.refl _ _, by simpa using HH.out⟩
    · have d1 : decide (n ≤ 4611686018427387904) = false := by simpa using h1
      have HH := Lib.hid h1
      clear h0 h1
      go_enter Tryz.func32, Tryz.ntmps32
      go_wp2
      go_ret
      exact ⟨false, rfl, Below.refl _ _, by have := HH.out; simp; omega⟩
  · have d0 : decide (0 ≤ n) = false := by simpa using h0
    have HH := Lib.hid h0
    clear h0
    go_enter Tryz.func32, Tryz.ntmps32
    go_wp2
    go_ret
    exact ⟨false, rfl, Below.refl _ _, by have := HH.out; simp; omega⟩
/-- the first k values fit -/
def FitsTo (kd : List Int) (vl : List V4) (k : Nat) : Prop := (vl.take k).map (·.k) = kd.take k ∧ ∀ v ∈ vl.take k, Ok4 v
theorem FitsTo.zero (kd : List Int) (vl : List V4) : FitsTo kd vl 0 := by simp [FitsTo]
theorem FitsTo.step {kd : List Int} {vl : List V4} {k : Nat} (h : FitsTo kd vl k) {v : V4} (hv : vl[k]? = some v) (hk : kd[k]? = some v.k) (ho : Ok4 v) : FitsTo kd vl (k + 1) := by
  obtain ⟨h1, rfl⟩ := List.getElem?_eq_some_iff.1 hv
  obtain ⟨h2, h3⟩ := List.getElem?_eq_some_iff.1 hk
  refine ⟨?_, ?_⟩
  · rw [take_snoc' h1, take_snoc' h2, List.map_append, h.1, h3]
    rfl
  · intro u hu
    rw [take_snoc' h1, List.mem_append] at hu
    rcases hu with hu | hu
    · exact h.2 u hu
    · simp only [List.mem_singleton] at hu
      rw [hu]
      exact ho
theorem FitsTo.all {kd : List Int} {vl : List V4} {tm : Int} (h : FitsTo kd vl vl.length) (hl : vl.length = kd.length) (ht : TmOk tm) : Fits kd tm vl := by
  unfold FitsTo at h
  rw [List.take_length, hl, List.take_length] at h
  exact ⟨ht, h.1, h.2⟩
theorem Fits.at {kd : List Int} {vl : List V4} {tm : Int} (h : Fits kd tm vl) {k : Nat} {v : V4} (hv : vl[k]? = some v) : Ok4 v ∧ kd[k]? = some v.k := by
  refine ⟨h.2.2 v (List.mem_of_getElem? hv), ?_⟩
  rw [← h.2.1, List.getElem?_map, hv]
  rfl
/-- what is wrong with an event by its type, as a number -/
def FltE (nm ty : ByteArray) (kd : List Int) (tm : Int) (vl : List V4) (E : Int) : Prop :=
  (ty ≠ nm ∧ E = 21) ∨ (ty = nm ∧ ¬ TmOk tm ∧ E = 23) ∨ (ty = nm ∧ TmOk tm ∧ vl.length ≠ kd.length ∧ E = 22) ∨ (ty = nm ∧ Fits kd tm vl ∧ E = 0) ∨
  (ty = nm ∧ TmOk tm ∧ vl.length = kd.length ∧ ∃ k v, FitsTo kd vl k ∧ vl[k]? = some v ∧ ((¬ Ok4 v ∧ E = 12) ∨ (Ok4 v ∧ kd[k]? ≠ some v.k ∧ E = 10)))
theorem fitsTo_at {kd : List Int} {vl : List V4} {k j : Nat} (h : FitsTo kd vl k) (hj : j < k) {v : V4} (hv : vl[j]? = some v) : Ok4 v ∧ kd[j]? = some v.k := by
  refine ⟨h.2 v ?_, ?_⟩
  · refine List.mem_of_getElem? (i := j) ?_
    rw [List.getElem?_take]
    simp [hj, hv]
  · have := congrArg (·[j]?) h.1
    simp only [List.getElem?_map, List.getElem?_take, hj, if_true, hv, Option.map_some] at this
    exact this.symm
theorem FltE.same {nm ty : ByteArray} {kd : List Int} {tm : Int} {vl : List V4} {E E' : Int} (h : FltE nm ty kd tm vl E) (h' : FltE nm ty kd tm vl E') : E = E' := by
  have key : ∀ {k k' : Nat} {v v' : V4}, FitsTo kd vl k → vl[k]? = some v → (¬ Ok4 v ∨ kd[k]? ≠ some v.k) → FitsTo kd vl k' → vl[k']? = some v' → (¬ Ok4 v' ∨ kd[k']? ≠ some v'.k) → k = k' := by
    intro k k' v v' h1 h2 h3 h4 h5 h6
    rcases Nat.lt_trichotomy k k' with hl | hl | hl
    · have := fitsTo_at h4 hl h2
      rcases h3 with h3 | h3
      · exact absurd this.1 h3
      · exact absurd this.2 h3
    · exact hl
    · have := fitsTo_at h1 hl h5
      rcases h6 with h6 | h6
      · exact absurd this.1 h6
      · exact absurd this.2 h6
  have bad : ∀ {k : Nat} {v : V4} {E : Int}, vl[k]? = some v → ((¬ Ok4 v ∧ E = (12 : Int)) ∨ (Ok4 v ∧ kd[k]? ≠ some v.k ∧ E = 10)) → (¬ Ok4 v ∨ kd[k]? ≠ some v.k) := fun _ h => h.elim (fun h => .inl h.1) (fun h => .inr h.2.1)
  rcases h with ⟨a, rfl⟩ | ⟨a, b, rfl⟩ | ⟨a, b, c, rfl⟩ | ⟨a, b, rfl⟩ | ⟨a, b, c, k, v, f, g, i⟩ <;>
    rcases h' with ⟨a', rfl⟩ | ⟨a', b', rfl⟩ | ⟨a', b', c', rfl⟩ | ⟨a', b', rfl⟩ | ⟨a', b', c', k', v', f', g', i'⟩
  all_goals first
    | rfl
    | exact absurd a' a
    | exact absurd a a'
    | exact absurd b' b
    | exact absurd b b'
    | exact absurd b'.1 b
    | exact absurd b.1 b'
    | exact absurd c' c
    | exact absurd c c'
    | exact absurd b'.len c
    | exact absurd b.len c'
    | skip
  · have := b.at g'
    rcases i' with ⟨i', _⟩ | ⟨_, i', _⟩
    · exact absurd this.1 i'
    · exact absurd this.2 i'
  · have := b'.at g
    rcases i with ⟨i, _⟩ | ⟨_, i, _⟩
    · exact absurd this.1 i
    · exact absurd this.2 i
  · obtain rfl := key f g (bad g i) f' g' (bad g' i')
    obtain rfl := Option.some.inj (g.symm.trans g')
    rcases i with ⟨x, rfl⟩ | ⟨x, _, rfl⟩ <;> rcases i' with ⟨x', rfl⟩ | ⟨x', _, rfl⟩
    · rfl
    · exact absurd x' x
    · exact absurd x x'
    · rfl
/-- what is wrong with an event by its type: nothing just if it fits -/
def FaultIs (w : World) (nm ty : ByteArray) (kd : List Int) (tm : Int) (vl : List V4) (e : Ending) (w' : World) : Prop := ∃ E : Int, e = .returned (.int .i64 E) ∧ Below w.heap.size w w' ∧ (E = 0 ↔ ty = nm ∧ Fits kd tm vl) ∧ FltE nm ty kd tm vl E
set_option maxRecDepth 100000 in
theorem fault_any (nm : ByteArray) (p : Option Addr) (l : List (ByteArray × Int)) (c : Nat) (ty : ByteArray) (tm : Int) (q : Option Addr) (vl : List V4) (d : Nat) (w : World) (hA : AtRow w p l) (hV : ValRow w q vl) (hn : ∀ u ∈ vl, I64 u.n) (hl : l.length ≤ 100000000) (hm : vl.length ≤ 100000000) :
    Calls Tryz.prog 34 #[.agg #[.string nm, .slice p l.length c], .agg #[.string ty, .int .i64 tm, .slice q vl.length d]] w (FaultIs w nm ty (kdL l) tm vl) := by
  obtain ⟨n, hnn⟩ : ∃ n, n = vl.length := ⟨_, rfl⟩
  obtain ⟨m, hmm⟩ : ∃ m, m = l.length := ⟨_, rfl⟩
  have HN := Lib.hid hnn
  have HM := Lib.hid hmm
  have HI := Lib.hid hn
  obtain ⟨w1, hw1⟩ : ∃ x, x = (w.alloc (Obj.cells #[.string nm, .slice p l.length c] 25)).alloc (Obj.cells #[.string ty, .int .i64 tm, .slice q vl.length d] 41) := ⟨_, rfl⟩
  have hb1 : Below w.heap.size w w1 := by rw [hw1]; exact ((Below.refl _ _).alloc (Nat.le_refl _) _).alloc (by simp) _
  have a0 : w1.cell? ⟨w.heap.size, 0, none⟩ = some (.string nm) := by rw [hw1]; simp [go_sem]
  have a1 : w1.cell? ⟨w.heap.size, 1, none⟩ = some (.slice p m c) := by rw [hw1, hmm]; simp [go_sem]
  have b0 : w1.cell? ⟨w.heap.size + 1, 0, none⟩ = some (.string ty) := by rw [hw1]; simp [go_sem]
  have b1 : w1.cell? ⟨w.heap.size + 1, 1, none⟩ = some (.int .i64 tm) := by rw [hw1]; simp [go_sem]
  have b2 : w1.cell? ⟨w.heap.size + 1, 2, none⟩ = some (.slice q n d) := by rw [hw1, hnn]; simp [go_sem]
  have hz1 : w.heap.size + 1 < w1.heap.size := by rw [hw1]; simp
  have HA := Lib.hid (hA.below hb1)
  have HV := Lib.hid (hV.below hb1)
  have HB1 := Lib.hid hb1
  have HW1 := Lib.hid hw1
  rw [← hnn, ← hmm] at hw1
  rw [← hnn] at hm ⊢
  rw [← hmm] at hl ⊢
  have HW2 := Lib.hid hw1
  obtain ⟨g, hg⟩ : ∃ g, g = w.heap.size := ⟨_, rfl⟩
  have HG := Lib.hid hg
  rw [← hg] at a0 a1 b0 b1 b2 hz1
  have zg : g < w1.heap.size := by omega
  clear hA hV hn hnn hmm hb1 hw1 HW1
  go_enter Tryz.func34, Tryz.ntmps34
  go_upto_region 1 with fail
  rw [← HW2.out, ← HG.out]
  clear hg
  by_cases hty : ty = nm
  case neg =>
    have dt : (ty.toList != nm.toList) = true := by
      simp only [bne_iff_ne, ne_eq]
      intro e
      exact hty (V.bytes_ext (by rw [← ByteArray.toList_eq, ← ByteArray.toList_eq]; exact e))
    have dt2 : (ty.toList == nm.toList) = false := by simpa [bne] using dt
    have HT := Lib.hid hty
    clear hty
    go_wp2
    go_ret
    exact ⟨21, rfl, HB1.out, by simp; intro e; exact absurd e HT.out, .inl ⟨HT.out, rfl⟩⟩
  case pos =>
  subst hty
  have dt : (ty.toList != ty.toList) = false := by simp
  go_wp2_with fail
  refine (isTime_any tm _).mono ?_
  rintro e w2 ⟨b, rfl, hb2, ht⟩
  have HT := Lib.hid ht
  have HB2 : Hid (Below w.heap.size w w2) := HB1.out.trans (hb2.mono HB1.out.size)
  have HA2 := Lib.hid (HA.out.below hb2)
  have HV2 := Lib.hid (HV.out.below hb2)
  replace a1 := (hb2.cell (p := ⟨g, 1, none⟩) zg).trans a1
  replace b2 := (hb2.cell (p := ⟨g + 1, 2, none⟩) hz1).trans b2
  have z2 : g + 1 < w2.heap.size := Nat.lt_of_lt_of_le hz1 hb2.size
  have z3 : g < w2.heap.size := by omega
  clear a0 b0 b1 ht hb2 dt HA HV hz1 zg
  cases b
  · go_wp2
    go_ret
    exact ⟨23, rfl, HB2.out, by simp; intro h; exact absurd (HT.out.2 h.1) (by simp), .inr (.inl ⟨rfl, fun h => absurd (HT.out.2 h) (by simp), rfl⟩)⟩
  · by_cases hnm : n = m
    case neg =>
      have dn : ((n : Int) != (m : Int)) = true := by simp; omega
      have HNM := Lib.hid hnm
      clear hnm
      go_wp2
      go_ret
      exact ⟨22, rfl, HB2.out, by simp; intro h; exact HNM.out (by have := h.len; rw [HN.out, HM.out, this]; simp [kdL]), .inr (.inr (.inl ⟨rfl, HT.out.1 (by first | rfl | trivial), fun h => HNM.out (by rw [HN.out, HM.out, h]; simp [kdL]), rfl⟩))⟩
    case pos =>
    subst hnm
    have dn : ((n : Int) != (n : Int)) = false := by simp
    go_wp2
    go_loopw [29] (fun i wr => ∃ k : Nat, k ≤ n ∧ i = .int .i64 k ∧ Below w2.heap.size w2 wr ∧ FitsTo (kdL l) vl k) (fun i _ => n - (intOf i).toNat)
    case atStart => exact ⟨0, Nat.zero_le _, rfl, by repeat (first | exact Below.refl _ _ | apply Below.drew), FitsTo.zero _ _⟩
    case round =>
      obtain ⟨k, hk, rfl, hb, hfit⟩ := hrel
      have HBR := Lib.hid hb
      have HFT := Lib.hid hfit
      by_cases hlt : k < n
      · have hkl : k < vl.length := by rw [← HN.out]; exact hlt
        obtain ⟨vk, vn, vs, vb, b, o, hvk, rfl, c0, c1, c2, c3⟩ := HV2.out.nth hkl
        obtain ⟨an, ak, b', o', hak, rfl, e0, e1⟩ := HA2.out.nth (k := k) (by rw [← HM.out]; exact hlt)
        have r0 := (hb.cell (p := ⟨b, o + k * 4, none⟩) (lt_of_cell c0)).trans c0
        have r1 := (hb.cell (p := ⟨b, o + k * 4 + 1, none⟩) (lt_of_cell c0)).trans c1
        have r2 := (hb.cell (p := ⟨b, o + k * 4 + 2, none⟩) (lt_of_cell c0)).trans c2
        have r3 := (hb.cell (p := ⟨b, o + k * 4 + 3, none⟩) (lt_of_cell c0)).trans c3
        have s1 := (hb.cell (p := ⟨b', o' + k * 2 + 1, none⟩) (lt_of_cell e0)).trans e1
        have t1 := (hb.cell (p := ⟨g, 1, none⟩) z3).trans a1
        have t2 := (hb.cell (p := ⟨g + 1, 2, none⟩) z2).trans b2
        have y1 := lt_of_cell r0
        have y2 := lt_of_cell s1
        have y3 := lt_of_cell t1
        have y4 := lt_of_cell t2
        have HVK := Lib.hid hvk
        have HAK := Lib.hid (kdL_at hak)
        have HZ : Hid (w2.heap.size ≤ wr.heap.size) := hb.size
        clear hkl hvk hak c0 c1 c2 c3 e0 e1 hb hfit a1 b2 z2 z3
        go_wp2_with fail
        refine (valid_any vk vn vs vb _).mono ?_
        rintro e w3 ⟨rfl, hb3⟩
        obtain ⟨hc3, hf3⟩ := bcell hb3
        have hz3 : wr.heap.size < w3.heap.size := by have := hb3.size; simp at this; omega
        have HB3 : Hid (Below w2.heap.size w2 w3) := (HBR.out.alloc HZ.out _).trans (hb3.mono (by simp; have := HZ.out; omega))
        have hbx : Below wr.heap.size wr w3 := ((Below.refl _ _).alloc (Nat.le_refl _) _).trans (hb3.mono (by simp))
        have q0 : w3.cell? ⟨wr.heap.size, 0, none⟩ = some (.int .i64 vk) := by rw [hc3 _ _ (by simp)]; simp [go_sem]
        have q1 : w3.cell? ⟨b', o' + k * 2 + 1, none⟩ = some (.int .i64 ak) := (hbx.cell (p := ⟨b', o' + k * 2 + 1, none⟩) y2).trans s1
        have q2 : w3.cell? ⟨g, 1, none⟩ = some (.slice (some ⟨b', o', none⟩) n c) := (hbx.cell (p := ⟨g, 1, none⟩) y3).trans t1
        clear r0 r1 r2 r3 s1 t1 t2 hb3 hc3 hf3 hbx
        cases hvl : valid vk vn vs vb
        · have HVL := Lib.hid hvl
          clear hvl
          go_wp2
          go_ret
          exact ⟨12, rfl, HB2.out.trans (HB3.out.mono HB2.out.size), (by simp; intro h; have := (h.at HVK.out).1.1; simp only at this; rw [HVL.out] at this; cases this), .inr (.inr (.inr (.inr ⟨rfl, HT.out.1 (by first | rfl | trivial), by rw [← HN.out, HM.out]; simp [kdL], k, _, HFT.out, HVK.out, .inl ⟨fun h => (by have := h.1; simp only at this; rw [HVL.out] at this; cases this), rfl⟩⟩)))⟩
        · have HVL := Lib.hid hvl
          clear hvl
          by_cases hka : vk = ak
          · subst hka
            have dk : (vk != vk) = false := by simp
            go_wp2
            go_region
            go_wp2
            go_roundw
            case rel => exact ⟨k + 1, by omega, by go_num, by repeat (first | exact HB3.out | apply Below.drew), HFT.out.step HVK.out HAK.out ⟨HVL.out, HI.out _ (List.mem_of_getElem? HVK.out)⟩⟩
            case measure => simp [intOf]; omega
          · have dk : (vk != ak) = true := by simpa using hka
            have HKA := Lib.hid hka
            clear hka
            go_wp2
            go_region
            go_wp2
            go_ret
            exact ⟨10, rfl, by repeat (first | exact HB2.out.trans (HB3.out.mono HB2.out.size) | apply Below.drew), by simp; intro h; have h2 := (h.at HVK.out).2; rw [HAK.out] at h2; exact HKA.out (Option.some.inj h2).symm, .inr (.inr (.inr (.inr ⟨rfl, HT.out.1 (by first | rfl | trivial), by rw [← HN.out, HM.out]; simp [kdL], k, _, HFT.out, HVK.out, .inr ⟨⟨HVL.out, HI.out _ (List.mem_of_getElem? HVK.out)⟩, fun h => by rw [HAK.out] at h; exact HKA.out (Option.some.inj h).symm, rfl⟩⟩)))⟩
      · have hkn : k = n := by omega
        subst hkn
        clear hb hfit
        go_wp2
        go_ret
        exact ⟨0, rfl, HB2.out.trans (HBR.out.mono HB2.out.size), by simp; exact (show FitsTo (kdL l) vl vl.length by rw [← HN.out]; exact HFT.out).all (by rw [← HN.out, HM.out]; simp [kdL]) (HT.out.1 (by first | rfl | trivial)), .inr (.inr (.inr (.inl ⟨rfl, (show FitsTo (kdL l) vl vl.length by rw [← HN.out]; exact HFT.out).all (by rw [← HN.out, HM.out]; simp [kdL]) (HT.out.1 (by first | rfl | trivial)), rfl⟩)))⟩
attribute [local go_sem ↓] run_eql_V run_neq_V
set_option maxRecDepth 100000 in
theorem sameEvent_any (ty : ByteArray) (tm : Int) (vl : List V4) (p q : Option Addr) (c d : Nat) (w : World) (h1 : ValRow w p vl) (h2 : ValRow w q vl) (hm : vl.length ≤ 100000000) :
    Calls Tryz.prog 12 #[.agg #[.string ty, .int .i64 tm, .slice p vl.length c], .agg #[.string ty, .int .i64 tm, .slice q vl.length d]] w fun e w' => e = .returned (.bool true) ∧ Below w.heap.size w w' := by
  obtain ⟨n, hnn⟩ : ∃ n, n = vl.length := ⟨_, rfl⟩
  have HN := Lib.hid hnn
  obtain ⟨w1, hw1⟩ : ∃ x, x = (w.alloc (Obj.cells #[.string ty, .int .i64 tm, .slice p vl.length c] 41)).alloc (Obj.cells #[.string ty, .int .i64 tm, .slice q vl.length d] 41) := ⟨_, rfl⟩
  have hb1 : Below w.heap.size w w1 := by rw [hw1]; exact ((Below.refl _ _).alloc (Nat.le_refl _) _).alloc (by simp) _
  have a0 : w1.cell? ⟨w.heap.size, 0, none⟩ = some (.string ty) := by rw [hw1]; simp [go_sem]
  have a1 : w1.cell? ⟨w.heap.size, 1, none⟩ = some (.int .i64 tm) := by rw [hw1]; simp [go_sem]
  have a2 : w1.cell? ⟨w.heap.size, 2, none⟩ = some (.slice p n c) := by rw [hw1, hnn]; simp [go_sem]
  have b0 : w1.cell? ⟨w.heap.size + 1, 0, none⟩ = some (.string ty) := by rw [hw1]; simp [go_sem]
  have b1 : w1.cell? ⟨w.heap.size + 1, 1, none⟩ = some (.int .i64 tm) := by rw [hw1]; simp [go_sem]
  have b2 : w1.cell? ⟨w.heap.size + 1, 2, none⟩ = some (.slice q n d) := by rw [hw1, hnn]; simp [go_sem]
  have hz1 : w.heap.size + 1 < w1.heap.size := by rw [hw1]; simp
  have H1 := Lib.hid (h1.below hb1)
  have H2 := Lib.hid (h2.below hb1)
  have HB1 := Lib.hid hb1
  rw [← hnn] at hw1 hm ⊢
  have HW2 := Lib.hid hw1
  obtain ⟨g, hg⟩ : ∃ g, g = w.heap.size := ⟨_, rfl⟩
  have HG := Lib.hid hg
  rw [← hg] at a0 a1 a2 b0 b1 b2 hz1
  have zg : g < w1.heap.size := by omega
  clear h1 h2 hnn hb1 hw1
  go_enter Tryz.func12, Tryz.ntmps12
  go_upto_region 1 with fail
  rw [← HW2.out, ← HG.out]
  clear hg
  go_wp2
  go_loopw [5] (fun i wr => ∃ k : Nat, k ≤ n ∧ i = .int .i64 k ∧ Below w1.heap.size w1 wr) (fun i _ => n - (intOf i).toNat)
  case atStart => exact ⟨0, Nat.zero_le _, rfl, by repeat (first | exact Below.refl _ _ | apply Below.drew)⟩
  case round =>
    obtain ⟨k, hk, rfl, hb⟩ := hrel
    have HBR := Lib.hid hb
    have t1 := (hb.cell (p := ⟨g, 2, none⟩) zg).trans a2
    have t2 := (hb.cell (p := ⟨g + 1, 2, none⟩) hz1).trans b2
    by_cases hlt : k < n
    · have hkl : k < vl.length := by rw [← HN.out]; exact hlt
      obtain ⟨vk, vn, vs, vb, b, o, hvk, rfl, c0, c1, c2, c3⟩ := H1.out.nth hkl
      obtain ⟨vk', vn', vs', vb', b', o', hvk', rfl, e0, e1, e2, e3⟩ := H2.out.nth hkl
      have hvv := hvk.symm.trans hvk'
      simp only [Option.some.injEq, V4.mk.injEq] at hvv
      obtain ⟨rfl, rfl, rfl, rfl⟩ := hvv
      have r0 := (hb.cell (p := ⟨b, o + k * 4, none⟩) (lt_of_cell c0)).trans c0
      have r1 := (hb.cell (p := ⟨b, o + k * 4 + 1, none⟩) (lt_of_cell c0)).trans c1
      have r2 := (hb.cell (p := ⟨b, o + k * 4 + 2, none⟩) (lt_of_cell c0)).trans c2
      have r3 := (hb.cell (p := ⟨b, o + k * 4 + 3, none⟩) (lt_of_cell c0)).trans c3
      have s0 := (hb.cell (p := ⟨b', o' + k * 4, none⟩) (lt_of_cell e0)).trans e0
      have s1 := (hb.cell (p := ⟨b', o' + k * 4 + 1, none⟩) (lt_of_cell e0)).trans e1
      have s2 := (hb.cell (p := ⟨b', o' + k * 4 + 2, none⟩) (lt_of_cell e0)).trans e2
      have s3 := (hb.cell (p := ⟨b', o' + k * 4 + 3, none⟩) (lt_of_cell e0)).trans e3
      have q1 : veq vk vn vs vb vk vn vs vb = true := veq_self _ _ _ _
      clear hb c0 c1 c2 c3 e0 e1 e2 e3 hvk hvk' hkl a0 a1 a2 b0 b1 b2
      go_wp2
      go_region
      go_wp2
      go_roundw
      case rel => exact ⟨k + 1, by omega, by go_num, by repeat (first | exact HBR.out | apply Below.drew)⟩
      case measure => simp [intOf]; omega
    · clear hb a0 a1 a2 b0 b1 b2
      go_wp2
      go_ret
      exact ⟨rfl, HB1.out.trans (HBR.out.mono HB1.out.size)⟩
end Go.Proofs.YtkficmbkoinjjaaGreatDoor
