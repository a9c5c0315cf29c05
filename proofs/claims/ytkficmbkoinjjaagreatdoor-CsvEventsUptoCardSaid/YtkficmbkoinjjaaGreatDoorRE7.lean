/- Contract of the document's own answer's Read. -/
import Derived.WalkKit
import Derived.WalkSpells
import Derived.WalkLawsBesides
import Derived.Lib.Hide
import Derived.Deep.DeepCutAuto
import Derived.Deep.CutRange
import Derived.Deep.CutBlock
import Derived.Test.YtkficmbkoinjjaaGreatDoorRE6
import Derived.Test.YtkficmbkoinjjaaGreatDoorRP2
import Derived.Test.YtkficmbkoinjjaaGreatDoorRE4
namespace Go.Proofs.YtkficmbkoinjjaaGreatDoor.V
open Go Go.RowKit
set_option maxHeartbeats 1000000
set_option linter.unusedVariables false
set_option linter.unusedSimpArgs false
theorem show_rs (k n : Int) (s : ByteArray) (b : Bool) (hn : I64 n) (sh : ByteArray) (hs : sh.data.toList = showT k n s b) (E : Int) (hE : E = showE k n s b) (w : World) :
    Calls Tryz.prog 39 #[.agg #[.int .i64 k, .int .i64 n, .string s, .bool b]] w fun e w' => e = .returned (.tuple #[.string sh, .int .i64 E]) ∧ Below w.heap.size w w' := by
  subst hE
  have : sh = ⟨(showT k n s b).toArray⟩ := bytes_ext (by rw [hs])
  rw [this]
  exact show_r k n s b hn w
theorem read_no (t : ByteArray) (h : t.size = 0 ∨ 1026 < t.size) : ∀ k n s b, I64 n → valid k n s b = true → t.data.toList ≠ showT k n s b := by
  intro k n s b hn hv he
  have h1 := showT_len hv hn
  have h2 := congrArg List.length he
  simp at h2
  omega
theorem read_r_out (t : ByteArray) (h : t.size = 0 ∨ 1026 < t.size) (w : World) : Calls Tryz.prog 36 #[.string t] w (ReadPost t.data.toList w) := by
  have HNO := Lib.hid (read_no t h)
  rcases h with h | h
  · have d0 : decide (1026 < (t.size : Int)) = false := by simp; omega
    have hl0 : t.data.toList.length = t.size := by simp
    have hte : t.data.toList = [] := List.eq_nil_of_length_eq_zero (by omega)
    clear hl0
    have hne : (t.toList == []) = true := by rw [ByteArray.toList_eq, hte]; rfl
    clear hte
    go_enter Tryz.func36, Tryz.ntmps36
    go_wp2
    refine bodyPost_ret (v := .tuple #[.agg #[.int .i64 0, .int .i64 0, .string ⟨#[]⟩, .bool false], .int .i64 12]) (by simp [results, Tryz.results36, go_sem]) rfl ?_
    refine zero_read ?_ HNO.out
    repeat (first | exact Below.refl _ _ | apply Below.drew | refine Below.setCell ?_ (by show w.heap.size ≤ w.heap.size; omega) _ | refine Below.alloc ?_ (by first | omega | (simp [World.setCell]; done) | (simp [World.setCell]; omega)) _)
  · have d0 : decide (1026 < (t.size : Int)) = true := by simp; omega
    go_enter Tryz.func36, Tryz.ntmps36
    go_wp2
    refine bodyPost_ret (v := .tuple #[.agg #[.int .i64 0, .int .i64 0, .string ⟨#[]⟩, .bool false], .int .i64 12]) (by simp [results, Tryz.results36, go_sem]) rfl ?_
    refine zero_read ?_ HNO.out
    repeat (first | exact Below.refl _ _ | apply Below.drew | refine Below.setCell ?_ (by show w.heap.size ≤ w.heap.size; omega) _ | refine Below.alloc ?_ (by first | omega | (simp [World.setCell]; done) | (simp [World.setCell]; omega)) _)
theorem first_of {t : ByteArray} (h : 0 < t.size) : t.data.toList.head? = some t[0] := by
  rw [List.head?_eq_getElem?, List.getElem?_eq_getElem (by simpa using h)]
  rfl
theorem not_nil {t : ByteArray} (h : 0 < t.size) : (t.toList == []) = false := ne_nil h
set_option maxRecDepth 100000 in
theorem read_r_in (t : ByteArray) (h : 0 < t.size) (hs : t.size ≤ 1026) (w : World) : Calls Tryz.prog 36 #[.string t] w (ReadPost t.data.toList w) := by
  have d0 : decide (1026 < (t.size : Int)) = false := by simp; omega
  have hne := not_nil h
  have HH := Lib.hid (first_of h)
  have HS := Lib.hid hs
  clear hs
  go_enter Tryz.func36, Tryz.ntmps36
  go_wp2_with fail
  refine (guessed_r t HS.out _).mono ?_
  rintro e w1 ⟨rfl, hb1⟩
  obtain ⟨hc1, hf1⟩ := bcell hb1
  have hz1 : w.heap.size < w1.heap.size := by have := hb1.size; simp at this; omega
  have hB1 : Below w.heap.size w w1 := ((Below.refl _ _).alloc (Nat.le_refl _) _).trans (hb1.mono (by simp))
  go_upto_block 0 with fail
  go_cut [19] from 7 to 42 (fun s19 wx => ∃ (K N : Int) (S : ByteArray) (T : Bool), GuessIs t K N S T true ∧ Below (w.alloc (Obj.cells #[.int .i64 0, .int .i64 0, .string ⟨#[]⟩, .bool false] 57)).heap.size (w.alloc (Obj.cells #[.int .i64 0, .int .i64 0, .string ⟨#[]⟩, .bool false] 57)) wx ∧ w1.heap.size < wx.heap.size ∧ wx.cell? ⟨w1.heap.size, 0, none⟩ = some (.int .i64 K) ∧ wx.cell? ⟨w1.heap.size, 1, none⟩ = some (.int .i64 N) ∧ wx.cell? ⟨w1.heap.size, 2, none⟩ = some (.string S) ∧ wx.cell? ⟨w1.heap.size, 3, none⟩ = some (.bool T))
  case first =>
    have hz1' : (w.alloc (Obj.cells #[.int .i64 0, .int .i64 0, .string ⟨#[]⟩, .bool false] 57)).heap.size ≤ w1.heap.size := hb1.size
    have HB := Lib.hid hb1
    clear hb1 hB1
    by_cases h34 : t[0] = 34
    · have b0 : ((t[0].toNat : Int) == 34) = true := by rw [h34]; rfl
      have HT := Lib.hid h34
      clear h34
      go_wp2_with (go_at_call 58; refine (unquoted_r t HS.out _).mono ?_; rintro e w2 ⟨S, rfl, hb2, hS⟩; obtain ⟨hc2, hf2⟩ := bcell hb2)
      have HG : Hid (GuessIs t 2 0 S false true) := gs_34 HH.out HT.out hS
      have hs2 := hb2.size
      simp at hs2
      have HB2 : Hid (Below (w.alloc (Obj.cells #[.int .i64 0, .int .i64 0, .string ⟨#[]⟩, .bool false] 57)).heap.size (w.alloc (Obj.cells #[.int .i64 0, .int .i64 0, .string ⟨#[]⟩, .bool false] 57)) w2) := (HB.out.alloc hz1' _).trans (hb2.mono (by simp at hz1' ⊢; omega))
      clear hb2 hS
      go_wp2
      go_meet
      refine ⟨2, 0, S, false, HG.out, ?_, by simp [World.setCell]; omega, by simp [go_sem, hc2], by simp [go_sem, hc2], by simp [go_sem, hc2], by simp [go_sem, hc2]⟩
      repeat (first | exact HB2.out | apply Below.drew | refine Below.setCell ?_ (by exact hz1') _)
    · have b0 : ((t[0].toNat : Int) == 34) = false := byte_ne (n := 34) h34
      by_cases h84 : t[0] = 84
      · have b1 : ((t[0].toNat : Int) == 84) = true := by rw [h84]; rfl
        have HG : Hid (GuessIs t 3 0 ⟨#[]⟩ true true) := gs_84 HH.out h84
        clear h34 h84
        go_wp2
        go_meet
        refine ⟨3, 0, ⟨#[]⟩, true, HG.out, ?_, by simp [World.setCell], by simp [go_sem], by simp [go_sem], by simp [go_sem], by simp [go_sem]⟩
        repeat (first | exact HB.out | apply Below.drew | refine Below.setCell ?_ (by exact hz1') _ | refine Below.alloc ?_ (by exact hz1') _)
      · have b1 : ((t[0].toNat : Int) == 84) = false := byte_ne (n := 84) h84
        by_cases h70 : t[0] = 70
        · have b2 : ((t[0].toNat : Int) == 70) = true := by rw [h70]; rfl
          have HG : Hid (GuessIs t 3 0 ⟨#[]⟩ false true) := gs_70 HH.out h70
          clear h34 h84 h70
          go_wp2
          go_meet
          refine ⟨3, 0, ⟨#[]⟩, false, HG.out, ?_, by simp [World.setCell], by simp [go_sem], by simp [go_sem], by simp [go_sem], by simp [go_sem]⟩
          repeat (first | exact HB.out | apply Below.drew | refine Below.setCell ?_ (by exact hz1') _ | refine Below.alloc ?_ (by exact hz1') _)
        · have b2 : ((t[0].toNat : Int) == 70) = false := byte_ne (n := 70) h70
          have HG : Hid (GuessIs t 1 (gval t.data.toList) ⟨#[]⟩ false true) := gs_num HH.out h34 h84 h70
          clear h34 h84 h70
          go_wp2
          go_meet
          refine ⟨1, _, ⟨#[]⟩, false, HG.out, ?_, by simp [World.setCell], by simp [go_sem], by simp [go_sem], by simp [go_sem], by simp [go_sem]⟩
          repeat (first | exact HB.out | apply Below.drew | refine Below.setCell ?_ (by exact hz1') _ | refine Below.alloc ?_ (by exact hz1') _)
  case rest =>
  obtain ⟨K, N, S, T, hg, hbx, hwx, x0, x1, x2, x3⟩ := hcut
  clear hc1 hf1 hb1 hB1
  have HG := Lib.hid hg
  clear hg
  have hI : Hid (I64 N) := HG.out.1 rfl
  have hB : Below w.heap.size w wc := ((Below.refl _ _).alloc (Nat.le_refl _) _).trans (hbx.mono (by simp))
  obtain ⟨hcx, hfx⟩ := bcell hbx
  have hz0 : w.heap.size < (w.alloc (Obj.cells #[.int .i64 0, .int .i64 0, .string ⟨#[]⟩, .bool false] 57)).heap.size := by simp
  have hz2 : w.heap.size < wc.heap.size := by have := hbx.size; simp at this; omega
  obtain ⟨sh, hsh⟩ : ∃ sh : ByteArray, sh.data.toList = showT K N S T := ⟨⟨(showT K N S T).toArray⟩, rfl⟩
  have HSH := Lib.hid hsh
  have HB := Lib.hid hB
  clear hsh hB hbx
  cases hvl : valid K N S T
  · have hE : Hid (12 = showE K N S T) := by show _ = _; unfold showE; rw [hvl]; rfl
    have HVL := Lib.hid hvl
    clear hvl
    go_wp2_with (go_at_call 39; refine (show_rs _ _ _ _ hI.out sh HSH.out 12 hE.out _).mono ?_; rintro e w2 ⟨rfl, hb2⟩; obtain ⟨hc2, hf2⟩ := bcell hb2)
    have hB2 : Below w.heap.size w w2 := HB.out.trans (hb2.mono (by omega))
    refine bodyPost_ret (v := .tuple #[.agg #[.int .i64 0, .int .i64 0, .string ⟨#[]⟩, .bool false], .int .i64 12]) (by simp [results, Tryz.results36, go_sem, hcx, hc2, hz2, hz0]) rfl ?_
    refine zero_read ?_ fun k n s b hn hv he => ?_
    · repeat (first | exact hB2 | apply Below.drew | refine Below.setCell ?_ (by show w.heap.size ≤ w.heap.size; omega) _)
    · obtain ⟨_, h1, h2, h3, h4⟩ := HG.out.2 k n s b hn hv he
      have h5 := HVL.out
      rw [h1, h2, h3, h4, hv] at h5
      cases h5
  · have hE : Hid (0 = showE K N S T) := by show _ = _; unfold showE; rw [hvl]; rfl
    have HVL := Lib.hid hvl
    clear hvl
    cases hq : (sh.toList == t.toList)
    · have HQ := Lib.hid hq
      go_wp2_with (go_at_call 39; refine (show_rs _ _ _ _ hI.out sh HSH.out 0 hE.out _).mono ?_; rintro e w2 ⟨rfl, hb2⟩; obtain ⟨hc2, hf2⟩ := bcell hb2)
      have hB2 : Below w.heap.size w w2 := HB.out.trans (hb2.mono (by omega))
      refine bodyPost_ret (v := .tuple #[.agg #[.int .i64 0, .int .i64 0, .string ⟨#[]⟩, .bool false], .int .i64 12]) (by simp [results, Tryz.results36, go_sem, hcx, hc2, hz2, hz0]) rfl ?_
      refine zero_read ?_ fun k n s b hn hv he => ?_
      · repeat (first | exact hB2 | apply Below.drew | refine Below.setCell ?_ (by show w.heap.size ≤ w.heap.size; omega) _)
      · obtain ⟨_, k1, k2, k3, k4⟩ := HG.out.2 k n s b hn hv he
        have h1 := HQ.out
        rw [ByteArray.toList_eq, ByteArray.toList_eq, HSH.out, he, k1, k2, k3, k4] at h1
        simp at h1
    · have HQ := Lib.hid hq
      go_wp2_with (go_at_call 39; refine (show_rs _ _ _ _ hI.out sh HSH.out 0 hE.out _).mono ?_; rintro e w2 ⟨rfl, hb2⟩; obtain ⟨hc2, hf2⟩ := bcell hb2)
      have hB2 : Below w.heap.size w w2 := HB.out.trans (hb2.mono (by omega))
      refine bodyPost_ret (v := .tuple #[.agg #[.int .i64 K, .int .i64 N, .string S, .bool T], .int .i64 0]) (by simp [results, Tryz.results36, go_sem, hcx, hc2, hz2, hz0]) rfl ?_
      refine ⟨K, N, S, T, 0, rfl, ?_, .inl ⟨rfl, HVL.out, hI.out, ?_⟩⟩
      · repeat (first | exact hB2 | apply Below.drew | refine Below.setCell ?_ (by show w.heap.size ≤ w.heap.size; omega) _)
      · have h1 := beq_iff_eq.1 HQ.out
        rw [ByteArray.toList_eq, ByteArray.toList_eq, HSH.out] at h1
        exact h1
theorem read_r (t : ByteArray) (w : World) : Calls Tryz.prog 36 #[.string t] w (ReadPost t.data.toList w) := by
  by_cases h : t.size = 0 ∨ 1026 < t.size
  · exact read_r_out t h w
  · exact read_r_in t (by omega) (by omega) w
end Go.Proofs.YtkficmbkoinjjaaGreatDoor.V
