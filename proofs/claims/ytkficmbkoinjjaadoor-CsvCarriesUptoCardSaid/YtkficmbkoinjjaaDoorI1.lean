/- strings.IndexRune at a rune above the bytes of ASCII, over the four bytes that a plain cell has none of. -/
import Derived.Test.YtkficmbkoinjjaaDoorSh
import Derived.Laws.RangeAny
import Derived.Laws.Runes
import Derived.WalkMore
import Derived.Deep.LoopGhost
import Derived.Lib.OthersKept
import Derived.BigQuiet
import Derived.Deep.QuietTactic
import Derived.Deep.RegionWith
namespace Go.Proofs.YtkficmbkoinjjaaDoor
open Go Go.RowKit
set_option maxHeartbeats 1000000
set_option linter.unusedVariables false
set_option linter.unusedSimpArgs false
abbrev NP : ByteArray := ⟨#[44, 34, 13, 10]⟩
theorem decode_valid (s : ByteArray) (pos : Nat) (h : pos < s.size) (ha : 128 ≤ (s[pos]'h).toNat) : Utf8.valid ((Utf8.decode s pos).1 : Int) = true := by
  have hb : ∀ k, (s.get! (pos + k)).toNat < 256 := fun k => (s.get! (pos + k)).toNat_lt
  have h0 := hb 0; have h1 := hb 1; have h2 := hb 2; have h3 := hb 3
  have hn : ¬ (s[pos]'h).toNat < 128 := by omega
  simp only [Utf8.decode, get_at s pos h, hn, if_false]
  repeat' split
  all_goals simp_all [Utf8.runeError, Utf8.valid]
  all_goals omega
theorem np_size : NP.size = 4 := rfl
set_option maxRecDepth 100000 in
theorem rune_err (w : World) : Calls Tryd.prog 50 #[.string NP, .int .i32 65533] w fun e w' => e = .returned (.int .i64 (-1)) ∧ Below w.heap.size w w' := by
  have HB : Hid (∀ i, Below w.heap.size w (w.iter NP i)) := fun i => (Below.refl _ _).alloc (Nat.le_refl _) _
  go_enter Tryd.func50, Tryd.ntmps50
  go_wp2
  go_loopg [176] 4 (fun g _ wx => ∃ i : Nat, i + g = 4 ∧ wx = w.iter NP i)
  case atStart => exact ⟨0, by omega, rfl⟩
  case round =>
    obtain ⟨i, hig, rfl⟩ := hrel
    have hc : i = 0 ∨ i = 1 ∨ i = 2 ∨ i = 3 ∨ i = 4 := by omega
    rcases hc with rfl | rfl | rfl | rfl | rfl
    · have hnx := fun ty => run_next_ascii (P := Tryd.prog) w NP 0 ty (by decide) (by decide)
      go_wp2
      go_roundg 3
      case measure => omega
      case rel => exact ⟨1, by omega, rfl⟩
    · have hnx := fun ty => run_next_ascii (P := Tryd.prog) w NP 1 ty (by decide) (by decide)
      go_wp2
      go_roundg 2
      case measure => omega
      case rel => exact ⟨2, by omega, rfl⟩
    · have hnx := fun ty => run_next_ascii (P := Tryd.prog) w NP 2 ty (by decide) (by decide)
      go_wp2
      go_roundg 1
      case measure => omega
      case rel => exact ⟨3, by omega, rfl⟩
    · have hnx := fun ty => run_next_ascii (P := Tryd.prog) w NP 3 ty (by decide) (by decide)
      go_wp2
      go_roundg 0
      case measure => omega
      case rel => exact ⟨4, by omega, rfl⟩
    · have hnx := fun ty => run_next_end (P := Tryd.prog) w NP 4 ty (by decide)
      go_wp2
      go_ret
      exact ⟨rfl, HB.out 4⟩
set_option maxRecDepth 100000 in
theorem rune_walk11 (r : Int) (w : World) (h : 128 ≤ r) (hE : r ≠ 65533) (v1 : r < 55296) (E : ByteArray) (hEr : Utf8.encode r = E) (hz : E.size = 2) (x : UInt8) (hx : E[1]'(by omega) = x) (hx128 : 128 ≤ x.toNat) : Calls Tryd.prog 50 #[.string NP, .int .i32 r] w fun e w' => e = .returned (.int .i64 (-1)) ∧ Below w.heap.size w w' := by
  have h0 : (0 : Int) ≤ r := by omega
  have h1 : ¬ r < 128 := by omega
  have hne : (r == 65533) = false := by simpa using hE
  have hzi : (E.size : Int) = 2 := by omega
  have hib : Lib.indexByte (⟨#[13, 10]⟩ : ByteArray).data.toList x = -1 := by
    have n13 : ¬ ((13 : UInt8) = x) := by intro e; subst e; simp at hx128
    have n10 : ¬ ((10 : UInt8) = x) := by intro e; subst e; simp at hx128
    simp [Lib.indexByte, n13, n10]
  have dx : (((NP[1]'(by decide)).toNat : Int) != (x.toNat : Int)) = true := by
    have e : (NP[1]'(by decide)).toNat = 34 := by decide
    rw [e, bne_iff_ne]
    omega
  have hback : ((x.toNat : Int)).toNat.toUInt8 = x := by simp
  go_enter Tryd.func50, Tryd.ntmps50
  go_wp2
  go_step3
  go_wp2
  go_loopw [9] (fun iv wr => iv = .int .i64 1 ∧ wr = w) (fun _ _ => 0)
  case atStart => exact ⟨rfl, rfl⟩
  case round =>
    obtain ⟨rfl, rfl⟩ := hrel
    go_wp2
    go_step3
    go_wp2
    go_region
    go_wp2
    go_region_with (go_at_call 65; refine (Tryd.strings_IndexByte _ _ _).mono ?_; rintro e w' ⟨rfl, hw⟩; rw [hw])
    all_goals
      go_wp2
      rw [Exit.noGoto_ret]
      simp only [Exit.inBlock]
      show Exit.noGoto _ Exit.ret _ _
      rw [Exit.noGoto_ret]
      simp only [Exit.inBlock, Exit.then, Exit.noGoto_ret]
      go_ret
      exact ⟨rfl, by repeat (first | exact Below.refl _ _ | apply Below.drew)⟩
set_option maxRecDepth 100000 in
theorem rune_walk12 (r : Int) (w : World) (h : 128 ≤ r) (hE : r ≠ 65533) (v0 : 57344 ≤ r) (v1 : r ≤ 1114111) (E : ByteArray) (hEr : Utf8.encode r = E) (hz : E.size = 2) (x : UInt8) (hx : E[1]'(by omega) = x) (hx128 : 128 ≤ x.toNat) : Calls Tryd.prog 50 #[.string NP, .int .i32 r] w fun e w' => e = .returned (.int .i64 (-1)) ∧ Below w.heap.size w w' := by
  have h0 : (0 : Int) ≤ r := by omega
  have h1 : ¬ r < 128 := by omega
  have hne : (r == 65533) = false := by simpa using hE
  have hzi : (E.size : Int) = 2 := by omega
  have hib : Lib.indexByte (⟨#[13, 10]⟩ : ByteArray).data.toList x = -1 := by
    have n13 : ¬ ((13 : UInt8) = x) := by intro e; subst e; simp at hx128
    have n10 : ¬ ((10 : UInt8) = x) := by intro e; subst e; simp at hx128
    simp [Lib.indexByte, n13, n10]
  have dx : (((NP[1]'(by decide)).toNat : Int) != (x.toNat : Int)) = true := by
    have e : (NP[1]'(by decide)).toNat = 34 := by decide
    rw [e, bne_iff_ne]
    omega
  have hback : ((x.toNat : Int)).toNat.toUInt8 = x := by simp
  go_enter Tryd.func50, Tryd.ntmps50
  go_wp2
  go_step3
  go_wp2
  go_loopw [9] (fun iv wr => iv = .int .i64 1 ∧ wr = w) (fun _ _ => 0)
  case atStart => exact ⟨rfl, rfl⟩
  case round =>
    obtain ⟨rfl, rfl⟩ := hrel
    go_wp2
    go_step3
    go_wp2
    go_region
    go_wp2
    go_region_with (go_at_call 65; refine (Tryd.strings_IndexByte _ _ _).mono ?_; rintro e w' ⟨rfl, hw⟩; rw [hw])
    all_goals
      go_wp2
      rw [Exit.noGoto_ret]
      simp only [Exit.inBlock]
      show Exit.noGoto _ Exit.ret _ _
      rw [Exit.noGoto_ret]
      simp only [Exit.inBlock, Exit.then, Exit.noGoto_ret]
      go_ret
      exact ⟨rfl, by repeat (first | exact Below.refl _ _ | apply Below.drew)⟩
set_option maxRecDepth 100000 in
theorem rune_walk21 (r : Int) (w : World) (h : 128 ≤ r) (hE : r ≠ 65533) (v1 : r < 55296) (E : ByteArray) (hEr : Utf8.encode r = E) (hz : E.size = 3) (x : UInt8) (hx : E[2]'(by omega) = x) (hx128 : 128 ≤ x.toNat) : Calls Tryd.prog 50 #[.string NP, .int .i32 r] w fun e w' => e = .returned (.int .i64 (-1)) ∧ Below w.heap.size w w' := by
  have h0 : (0 : Int) ≤ r := by omega
  have h1 : ¬ r < 128 := by omega
  have hne : (r == 65533) = false := by simpa using hE
  have hzi : (E.size : Int) = 3 := by omega
  have hib : Lib.indexByte (⟨#[10]⟩ : ByteArray).data.toList x = -1 := by
    have n13 : ¬ ((13 : UInt8) = x) := by intro e; subst e; simp at hx128
    have n10 : ¬ ((10 : UInt8) = x) := by intro e; subst e; simp at hx128
    simp [Lib.indexByte, n13, n10]
  have dx : (((NP[2]'(by decide)).toNat : Int) != (x.toNat : Int)) = true := by
    have e : (NP[2]'(by decide)).toNat = 13 := by decide
    rw [e, bne_iff_ne]
    omega
  have hback : ((x.toNat : Int)).toNat.toUInt8 = x := by simp
  go_enter Tryd.func50, Tryd.ntmps50
  go_wp2
  go_step3
  go_wp2
  go_loopw [9] (fun iv wr => iv = .int .i64 2 ∧ wr = w) (fun _ _ => 0)
  case atStart => exact ⟨rfl, rfl⟩
  case round =>
    obtain ⟨rfl, rfl⟩ := hrel
    go_wp2
    go_step3
    go_wp2
    go_region
    go_wp2
    go_region_with (go_at_call 65; refine (Tryd.strings_IndexByte _ _ _).mono ?_; rintro e w' ⟨rfl, hw⟩; rw [hw])
    all_goals
      go_wp2
      rw [Exit.noGoto_ret]
      simp only [Exit.inBlock]
      show Exit.noGoto _ Exit.ret _ _
      rw [Exit.noGoto_ret]
      simp only [Exit.inBlock, Exit.then, Exit.noGoto_ret]
      go_ret
      exact ⟨rfl, by repeat (first | exact Below.refl _ _ | apply Below.drew)⟩
set_option maxRecDepth 100000 in
theorem rune_walk22 (r : Int) (w : World) (h : 128 ≤ r) (hE : r ≠ 65533) (v0 : 57344 ≤ r) (v1 : r ≤ 1114111) (E : ByteArray) (hEr : Utf8.encode r = E) (hz : E.size = 3) (x : UInt8) (hx : E[2]'(by omega) = x) (hx128 : 128 ≤ x.toNat) : Calls Tryd.prog 50 #[.string NP, .int .i32 r] w fun e w' => e = .returned (.int .i64 (-1)) ∧ Below w.heap.size w w' := by
  have h0 : (0 : Int) ≤ r := by omega
  have h1 : ¬ r < 128 := by omega
  have hne : (r == 65533) = false := by simpa using hE
  have hzi : (E.size : Int) = 3 := by omega
  have hib : Lib.indexByte (⟨#[10]⟩ : ByteArray).data.toList x = -1 := by
    have n13 : ¬ ((13 : UInt8) = x) := by intro e; subst e; simp at hx128
    have n10 : ¬ ((10 : UInt8) = x) := by intro e; subst e; simp at hx128
    simp [Lib.indexByte, n13, n10]
  have dx : (((NP[2]'(by decide)).toNat : Int) != (x.toNat : Int)) = true := by
    have e : (NP[2]'(by decide)).toNat = 13 := by decide
    rw [e, bne_iff_ne]
    omega
  have hback : ((x.toNat : Int)).toNat.toUInt8 = x := by simp
  go_enter Tryd.func50, Tryd.ntmps50
  go_wp2
  go_step3
  go_wp2
  go_loopw [9] (fun iv wr => iv = .int .i64 2 ∧ wr = w) (fun _ _ => 0)
  case atStart => exact ⟨rfl, rfl⟩
  case round =>
    obtain ⟨rfl, rfl⟩ := hrel
    go_wp2
    go_step3
    go_wp2
    go_region
    go_wp2
    go_region_with (go_at_call 65; refine (Tryd.strings_IndexByte _ _ _).mono ?_; rintro e w' ⟨rfl, hw⟩; rw [hw])
    all_goals
      go_wp2
      rw [Exit.noGoto_ret]
      simp only [Exit.inBlock]
      show Exit.noGoto _ Exit.ret _ _
      rw [Exit.noGoto_ret]
      simp only [Exit.inBlock, Exit.then, Exit.noGoto_ret]
      go_ret
      exact ⟨rfl, by repeat (first | exact Below.refl _ _ | apply Below.drew)⟩
set_option maxRecDepth 100000 in
theorem rune_walk31 (r : Int) (w : World) (h : 128 ≤ r) (hE : r ≠ 65533) (v1 : r < 55296) (E : ByteArray) (hEr : Utf8.encode r = E) (hz : E.size = 4) (x : UInt8) (hx : E[3]'(by omega) = x) (hx128 : 128 ≤ x.toNat) : Calls Tryd.prog 50 #[.string NP, .int .i32 r] w fun e w' => e = .returned (.int .i64 (-1)) ∧ Below w.heap.size w w' := by
  have h0 : (0 : Int) ≤ r := by omega
  have h1 : ¬ r < 128 := by omega
  have hne : (r == 65533) = false := by simpa using hE
  have hzi : (E.size : Int) = 4 := by omega
  have hib : Lib.indexByte (⟨#[]⟩ : ByteArray).data.toList x = -1 := by
    have n13 : ¬ ((13 : UInt8) = x) := by intro e; subst e; simp at hx128
    have n10 : ¬ ((10 : UInt8) = x) := by intro e; subst e; simp at hx128
    simp [Lib.indexByte, n13, n10]
  have dx : (((NP[3]'(by decide)).toNat : Int) != (x.toNat : Int)) = true := by
    have e : (NP[3]'(by decide)).toNat = 10 := by decide
    rw [e, bne_iff_ne]
    omega
  have hback : ((x.toNat : Int)).toNat.toUInt8 = x := by simp
  go_enter Tryd.func50, Tryd.ntmps50
  go_wp2
  go_step3
  go_wp2
  go_loopw [9] (fun iv wr => iv = .int .i64 3 ∧ wr = w) (fun _ _ => 0)
  case atStart => exact ⟨rfl, rfl⟩
  case round =>
    obtain ⟨rfl, rfl⟩ := hrel
    go_wp2
    go_step3
    go_wp2
    go_region
    go_wp2
    go_region_with (go_at_call 65; refine (Tryd.strings_IndexByte _ _ _).mono ?_; rintro e w' ⟨rfl, hw⟩; rw [hw])
    all_goals
      go_wp2
      rw [Exit.noGoto_ret]
      simp only [Exit.inBlock]
      show Exit.noGoto _ Exit.ret _ _
      rw [Exit.noGoto_ret]
      simp only [Exit.inBlock, Exit.then, Exit.noGoto_ret]
      go_ret
      exact ⟨rfl, by repeat (first | exact Below.refl _ _ | apply Below.drew)⟩
set_option maxRecDepth 100000 in
theorem rune_walk32 (r : Int) (w : World) (h : 128 ≤ r) (hE : r ≠ 65533) (v0 : 57344 ≤ r) (v1 : r ≤ 1114111) (E : ByteArray) (hEr : Utf8.encode r = E) (hz : E.size = 4) (x : UInt8) (hx : E[3]'(by omega) = x) (hx128 : 128 ≤ x.toNat) : Calls Tryd.prog 50 #[.string NP, .int .i32 r] w fun e w' => e = .returned (.int .i64 (-1)) ∧ Below w.heap.size w w' := by
  have h0 : (0 : Int) ≤ r := by omega
  have h1 : ¬ r < 128 := by omega
  have hne : (r == 65533) = false := by simpa using hE
  have hzi : (E.size : Int) = 4 := by omega
  have hib : Lib.indexByte (⟨#[]⟩ : ByteArray).data.toList x = -1 := by
    have n13 : ¬ ((13 : UInt8) = x) := by intro e; subst e; simp at hx128
    have n10 : ¬ ((10 : UInt8) = x) := by intro e; subst e; simp at hx128
    simp [Lib.indexByte, n13, n10]
  have dx : (((NP[3]'(by decide)).toNat : Int) != (x.toNat : Int)) = true := by
    have e : (NP[3]'(by decide)).toNat = 10 := by decide
    rw [e, bne_iff_ne]
    omega
  have hback : ((x.toNat : Int)).toNat.toUInt8 = x := by simp
  go_enter Tryd.func50, Tryd.ntmps50
  go_wp2
  go_step3
  go_wp2
  go_loopw [9] (fun iv wr => iv = .int .i64 3 ∧ wr = w) (fun _ _ => 0)
  case atStart => exact ⟨rfl, rfl⟩
  case round =>
    obtain ⟨rfl, rfl⟩ := hrel
    go_wp2
    go_step3
    go_wp2
    go_region
    go_wp2
    go_region_with (go_at_call 65; refine (Tryd.strings_IndexByte _ _ _).mono ?_; rintro e w' ⟨rfl, hw⟩; rw [hw])
    all_goals
      go_wp2
      rw [Exit.noGoto_ret]
      simp only [Exit.inBlock]
      show Exit.noGoto _ Exit.ret _ _
      rw [Exit.noGoto_ret]
      simp only [Exit.inBlock, Exit.then, Exit.noGoto_ret]
      go_ret
      exact ⟨rfl, by repeat (first | exact Below.refl _ _ | apply Below.drew)⟩
theorem rune_high (r : Int) (w : World) (h : 128 ≤ r) (hv : Utf8.valid r = true) (hE : r ≠ 65533) : Calls Tryd.prog 50 #[.string NP, .int .i32 r] w fun e w' => e = .returned (.int .i64 (-1)) ∧ Below w.heap.size w w' := by
  have hvv : (0 ≤ r ∧ r < 55296) ∨ (57344 ≤ r ∧ r ≤ 1114111) := by
    unfold Utf8.valid at hv
    simp at hv
    omega
  obtain ⟨e1, e2, e3⟩ := encode_facts r hv h
  obtain ⟨E, hEE⟩ : ∃ E, E = Utf8.encode r := ⟨_, rfl⟩
  rw [← hEE] at e1 e2 e3
  have hz : E.size = 2 ∨ E.size = 3 ∨ E.size = 4 := by omega
  rcases hz with hz | hz | hz <;> rcases hvv with ⟨_, v1⟩ | ⟨v0, v1⟩
  · exact rune_walk11 r w h hE v1 E hEE.symm hz _ rfl (by have := e3 (by omega); simpa [hz] using this)
  · exact rune_walk12 r w h hE v0 v1 E hEE.symm hz _ rfl (by have := e3 (by omega); simpa [hz] using this)
  · exact rune_walk21 r w h hE v1 E hEE.symm hz _ rfl (by have := e3 (by omega); simpa [hz] using this)
  · exact rune_walk22 r w h hE v0 v1 E hEE.symm hz _ rfl (by have := e3 (by omega); simpa [hz] using this)
  · exact rune_walk31 r w h hE v1 E hEE.symm hz _ rfl (by have := e3 (by omega); simpa [hz] using this)
  · exact rune_walk32 r w h hE v0 v1 E hEE.symm hz _ rfl (by have := e3 (by omega); simpa [hz] using this)
end Go.Proofs.YtkficmbkoinjjaaDoor
