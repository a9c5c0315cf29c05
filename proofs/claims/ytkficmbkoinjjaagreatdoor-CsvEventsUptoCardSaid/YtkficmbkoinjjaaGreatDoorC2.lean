/- Package csv's reader: end. -/
import Derived.Test.YtkficmbkoinjjaaGreatDoorC1
namespace Go.Proofs.YtkficmbkoinjjaaGreatDoor
open Go Go.RowKit
set_option maxHeartbeats 2000000
set_option linter.unusedVariables false
set_option linter.unusedSimpArgs false
/-- what a row's end is: the fault, and how many bytes -/
def endF : List UInt8 → Int × Nat
  | [] => (0, 0)
  | b :: t => if b = 10 then (0, 1) else if b = 13 then (if t.head? = some 10 then (0, 2) else (41, 0)) else (40, 0)
abbrev sLF : ByteArray := ⟨#[10]⟩
abbrev sCR : ByteArray := ⟨#[13]⟩
abbrev sEnd : ByteArray := ⟨#[13, 10]⟩
theorem there_one (T : ByteArray) (a : Nat) (c : UInt8) : there T a ⟨#[c]⟩ = ((T.data.toList.drop a).head? == some c) := by
  unfold there Lib.hasPrefix
  cases T.data.toList.drop a with
  | nil => rfl
  | cons b t =>
    rw [Bool.eq_iff_iff]
    simp [List.isPrefixOf]
    exact eq_comm
theorem there_end (T : ByteArray) (a : Nat) : there T a sEnd = ((T.data.toList.drop a).head? == some 13 && ((T.data.toList.drop a).drop 1).head? == some 10) := by
  unfold there Lib.hasPrefix
  cases T.data.toList.drop a with
  | nil => rfl
  | cons b t =>
    cases t with
    | nil => simp [List.isPrefixOf]
    | cons b2 t =>
      rw [Bool.eq_iff_iff]
      simp [List.isPrefixOf]
      constructor
      · rintro ⟨h1, h2⟩; exact ⟨h1.symm, h2.symm⟩
      · rintro ⟨h1, h2⟩; exact ⟨h1.symm, h2.symm⟩
set_option maxRecDepth 100000 in
theorem end_any (R : Nat) (T : ByteArray) (a : Nat) (w : World) (h : Rd w R T a 0) (ha : a ≤ T.size) (hT : T.size ≤ 1000000) :
    Calls Tryz.prog 50 #[.pointer (some ⟨R, 0, none⟩)] w fun e w' => e = .returned (.tuple #[]) ∧ Aft w w' R T (a + (endF (T.data.toList.drop a)).2) (endF (T.data.toList.drop a)).1 := by
  have HSK : Hid (∀ s wx, Rd wx R T a 0 → Calls Tryz.prog 48 #[.pointer (some ⟨R, 0, none⟩), .string s] wx fun e w' => e = .returned (.bool (there T a s)) ∧ Aft wx w' R T (if there T a s = true then a + s.size else a) 0) := fun s wx hx => skip_any R T a 0 s wx hx ha hT
  have HP : Hid (∀ wx s, Calls Tryz.prog 67 #[.string (T.extract a T.size), .string s] wx fun e w' => e = .returned (.bool (there T a s)) ∧ w' = wx) := fun wx s => by
    have := Tryz.strings_HasPrefix (T.extract a T.size) s wx
    rw [strB_rest] at this
    exact this
  have t1 := there_one T a 10
  have t2 := there_end T a
  have t3 := there_one T a 13
  have hlen : (T.data.toList.drop a).length = T.size - a := by rw [List.length_drop, ← Lib.size_eq]
  have HR := Lib.hid h
  obtain ⟨c0, c1, c2, z1, z2⟩ := h
  have v0 : (0 : Int) ≤ (a : Int) := by omega
  have v1 : (a : Int) ≤ (T.size : Int) := by omega
  obtain ⟨m, hm⟩ : ∃ m, m = T.data.toList.drop a := ⟨_, rfl⟩
  rw [← hm] at t1 t2 t3 hlen ⊢
  clear hm ha hT
  cases m with
  | nil =>
    have hE : a = T.size := by simp at hlen; omega
    have dE : ((a : Int) == (T.size : Int)) = true := by rw [hE]; simp
    clear hE hlen t1 t2 t3
    go_enter Tryz.func50, Tryz.ntmps50
    go_wp2
    go_region
    go_wp2
    first | go_end0 | refine bodyPost_ret (v := .tuple #[]) (by simp [results, Tryz.results50, go_sem]) rfl ?_
    exact ⟨rfl, by repeat (first | exact Aft.refl HR.out | apply Aft.drew)⟩
  | cons b t =>
    have hE : ¬ a = T.size := by simp at hlen; omega
    have dE : ((a : Int) == (T.size : Int)) = false := by simp; omega
    have HS1 : Hid (∀ wx, Rd wx R T a 0 → Calls Tryz.prog 48 #[.pointer (some ⟨R, 0, none⟩), .string sLF] wx fun e w' => e = .returned (.bool (b == 10)) ∧ Aft wx w' R T (if (b == 10) = true then a + 1 else a) 0) := fun wx hx => by
      have := HSK.out sLF wx hx
      rw [t1] at this
      exact this
    have HS2 : Hid (∀ wx, Rd wx R T a 0 → Calls Tryz.prog 48 #[.pointer (some ⟨R, 0, none⟩), .string sEnd] wx fun e w' => e = .returned (.bool (b == 13 && t.head? == some 10)) ∧ Aft wx w' R T (if (b == 13 && t.head? == some 10) = true then a + 2 else a) 0) := fun wx hx => by
      have := HSK.out sEnd wx hx
      rw [t2] at this
      exact this
    have HS3 : Hid (∀ wx, Calls Tryz.prog 67 #[.string (T.extract a T.size), .string sCR] wx fun e w' => e = .returned (.bool (b == 13)) ∧ w' = wx) := fun wx => by
      have := HP.out wx sCR
      rw [t3] at this
      exact this
    clear hE hlen t1 t2 t3 HSK HP
    by_cases h10 : b = 10
    · subst h10
      go_enter Tryz.func50, Tryz.ntmps50
      go_wp2
      go_region
      go_wp2_with fail
      have hA1 : Aft w w.drew R T a 0 := (Aft.refl HR.out).drew
      refine (HS1.out _ hA1.r).mono ?_
      rintro e w2 ⟨rfl, hA2⟩
      have HA2 := Lib.hid (hA1.trans hA2)
      clear c0 c1 c2 z1 z2 hA1 hA2
      go_wp2
      first | go_end0 | refine bodyPost_ret (v := .tuple #[]) (by simp [results, Tryz.results50, go_sem]) rfl ?_
      exact ⟨rfl, HA2.out⟩
    · have e10 : (b == 10) = false := by simpa using h10
      rw [e10] at HS1
      by_cases h13 : b = 13
      · subst h13
        by_cases ht : t.head? = some 10
        · have et : (t.head? == some 10) = true := by simpa using ht
          rw [et] at HS2
          have HE : Hid (endF (13 :: t) = (0, 2)) := by show _ = _; simp [endF, ht]
          clear ht et
          go_enter Tryz.func50, Tryz.ntmps50
          go_wp2
          go_region
          go_wp2_with fail
          have hA1 : Aft w w.drew R T a 0 := (Aft.refl HR.out).drew
          refine (HS1.out _ hA1.r).mono ?_
          rintro e w2 ⟨rfl, hA2⟩
          have HA2 : Hid (Aft w w2 R T a 0) := hA1.trans hA2
          clear c0 c1 c2 z1 z2 hA1 hA2
          go_wp2_with fail
          refine (HS2.out _ HA2.out.r).mono ?_
          rintro e w3 ⟨rfl, hA3⟩
          have HA3 : Hid (Aft w w3 R T (a + 2) 0) := HA2.out.trans hA3
          clear hA3
          go_wp2
          first | go_end0 | refine bodyPost_ret (v := .tuple #[]) (by simp [results, Tryz.results50, go_sem]) rfl ?_
          exact ⟨rfl, by rw [HE.out]; exact HA3.out⟩
        · have et : (t.head? == some 10) = false := by simpa using ht
          rw [et] at HS2
          have HE : Hid (endF (13 :: t) = (41, 0)) := by show _ = _; simp [endF, ht]
          clear ht et
          go_enter Tryz.func50, Tryz.ntmps50
          go_wp2
          go_region
          go_wp2_with fail
          have hA1 : Aft w w.drew R T a 0 := (Aft.refl HR.out).drew
          refine (HS1.out _ hA1.r).mono ?_
          rintro e w2 ⟨rfl, hA2⟩
          have HA2 : Hid (Aft w w2 R T a 0) := hA1.trans hA2
          clear c0 c1 c2 z1 z2 hA1 hA2
          go_wp2_with fail
          refine (HS2.out _ HA2.out.r).mono ?_
          rintro e w3 ⟨rfl, hA3⟩
          have HA3 : Hid (Aft w w3 R T a 0) := HA2.out.trans hA3
          clear hA3
          obtain ⟨c0, c1, c2, z1, z2⟩ := HA3.out.r
          go_wp2
          go_region_with (go_at_call 67; refine (HS3.out _).mono ?_; rintro e w' ⟨rfl, hw⟩; rw [hw])
          all_goals
            go_wp2
            first | go_end0 | refine bodyPost_ret (v := .tuple #[]) (by simp [results, Tryz.results50, go_sem]) rfl ?_
            refine ⟨rfl, ?_⟩
            rw [HE.out]
            first | exact (HA3.out.drew.bad 41) | exact (HA3.out.bad 41).drew | exact (HA3.out.drew.drew.bad 41) | exact (HA3.out.bad 41).drew.drew | exact (HA3.out.drew.bad 41).drew
      · have e13 : (b == 13) = false := by simpa using h13
        rw [e13, Bool.false_and] at HS2
        rw [e13] at HS3
        have HE : Hid (endF (b :: t) = (40, 0)) := by show _ = _; simp [endF, h10, h13]
        clear h10 h13 e10 e13
        go_enter Tryz.func50, Tryz.ntmps50
        go_wp2
        go_region
        go_wp2_with fail
        have hA1 : Aft w w.drew R T a 0 := (Aft.refl HR.out).drew
        refine (HS1.out _ hA1.r).mono ?_
        rintro e w2 ⟨rfl, hA2⟩
        have HA2 : Hid (Aft w w2 R T a 0) := hA1.trans hA2
        clear c0 c1 c2 z1 z2 hA1 hA2
        go_wp2_with fail
        refine (HS2.out _ HA2.out.r).mono ?_
        rintro e w3 ⟨rfl, hA3⟩
        have HA3 : Hid (Aft w w3 R T a 0) := HA2.out.trans hA3
        clear hA3
        obtain ⟨c0, c1, c2, z1, z2⟩ := HA3.out.r
        go_wp2
        go_region_with (go_at_call 67; refine (HS3.out _).mono ?_; rintro e w' ⟨rfl, hw⟩; rw [hw])
        all_goals
          go_wp2
          first | go_end0 | refine bodyPost_ret (v := .tuple #[]) (by simp [results, Tryz.results50, go_sem]) rfl ?_
          refine ⟨rfl, ?_⟩
          rw [HE.out]
          first | exact (HA3.out.drew.bad 40) | exact (HA3.out.bad 40).drew | exact (HA3.out.drew.drew.bad 40) | exact (HA3.out.bad 40).drew.drew | exact (HA3.out.drew.bad 40).drew
end Go.Proofs.YtkficmbkoinjjaaGreatDoor
