/- Plain facts: where a text has a byte of ASCII, rune by rune and byte by byte. -/
import Derived.Laws.RangeAny
import Derived.Lib.IndexAny
import Derived.Laws.Runes
import Derived.WalkMore
import Derived.Deep.LoopGhost
import Derived.Lib.OthersKept
import Derived.BigQuiet
import Derived.Deep.QuietTactic
import Derived.Deep.RegionWith
import Derived.Test.YtkficmbkoinjjaaGreatDoorSh2
namespace Go.Proofs.YtkficmbkoinjjaaGreatDoor
open Go
set_option maxHeartbeats 1000000
set_option linter.unusedVariables false
set_option linter.unusedSimpArgs false
theorem get_is (s : ByteArray) (i : Nat) (h : i < s.size) : s.get! i = s[i]'h := by
  have := get_at s i h
  simpa using this
theorem decode_cont (s : ByteArray) (pos : Nat) (h : pos < s.size) (ha : 128 ≤ (s[pos]'h).toNat) : ∀ t, t < (Utf8.decode s pos).2 → pos + t < s.size ∧ 128 ≤ (s.get! (pos + t)).toNat := by
  have h00 : 128 ≤ (s.get! (pos + 0)).toNat := by rw [get_at s pos h]; exact ha
  have hn : ¬ (s.get! (pos + 0)).toNat < 128 := by omega
  intro t
  simp only [Utf8.decode, hn, if_false]
  repeat' split
  all_goals
    intro ht
    simp only [Bool.and_eq_true, decide_eq_true_eq, beq_iff_eq] at *
    have hc : t = 0 ∨ t = 1 ∨ t = 2 ∨ t = 3 := by omega
    rcases hc with rfl | rfl | rfl | rfl
    all_goals first | exact ⟨by omega, by omega⟩ | omega
end Go.Proofs.YtkficmbkoinjjaaGreatDoor
/- strings.IndexRune at a rune above the bytes of ASCII, over the four bytes that a plain cell has none of. -/
namespace Go.Proofs.YtkficmbkoinjjaaGreatDoor
open Go Go.RowKit
set_option maxHeartbeats 1000000
set_option linter.unusedVariables false
set_option linter.unusedSimpArgs false
abbrev NP : ByteArray := ⟨#[44, 34, 13, 10]⟩
theorem decode_valid (s : ByteArray) (pos : Nat) (h : pos < s.size) (ha : 128 ≤ (s[pos]'h).toNat) : Utf8.valid ((Utf8.decode s pos).1 : Int) = true := by
  have hb : ∀ k, (s.get! (pos + k)).toNat < 256 := fun k => (s.get! (pos + k)).toNat_lt
  have h0 := hb 0; have h1 := hb 1; have h2 := hb 2; have h3 := hb 3
  have hn : ¬ (s[pos]'h).toNat < 128 := by omega
  simp only [Utf8.decode, get_at s pos h, hn, if_false]
  repeat' split
  all_goals simp_all [Utf8.runeError, Utf8.valid]
  all_goals omega
theorem np_size : NP.size = 4 := rfl
set_option maxRecDepth 100000 in
theorem rune_err (w : World) : Calls Tryz.prog 80 #[.string NP, .int .i32 65533] w fun e w' => e = .returned (.int .i64 (-1)) ∧ Below w.heap.size w w' := by
  have HB : Hid (∀ i, Below w.heap.size w (w.iter NP i)) := fun i => (Below.refl _ _).alloc (Nat.le_refl _) _
  go_enter Tryz.func80, Tryz.ntmps80
  go_wp2
  go_loopg [176] 4 (fun g _ wx => ∃ i : Nat, i + g = 4 ∧ wx = w.iter NP i)
  case atStart => exact ⟨0, by omega, rfl⟩
  case round =>
    obtain ⟨i, hig, rfl⟩ := hrel
    have hc : i = 0 ∨ i = 1 ∨ i = 2 ∨ i = 3 ∨ i = 4 := by omega
    rcases hc with rfl | rfl | rfl | rfl | rfl
    · have hnx := fun ty => run_next_ascii (P := Tryz.prog) w NP 0 ty (by decide) (by decide)
      go_wp2
      go_roundg 3
      case measure => omega
      case rel => exact ⟨1, by omega, rfl⟩
    · have hnx := fun ty => run_next_ascii (P := Tryz.prog) w NP 1 ty (by decide) (by decide)
      go_wp2
      go_roundg 2
      case measure => omega
      case rel => exact ⟨2, by omega, rfl⟩
    · have hnx := fun ty => run_next_ascii (P := Tryz.prog) w NP 2 ty (by decide) (by decide)
      go_wp2
      go_roundg 1
      case measure => omega
      case rel => exact ⟨3, by omega, rfl⟩
    · have hnx := fun ty => run_next_ascii (P := Tryz.prog) w NP 3 ty (by decide) (by decide)
      go_wp2
      go_roundg 0
      case measure => omega
      case rel => exact ⟨4, by omega, rfl⟩
    · have hnx := fun ty => run_next_end (P := Tryz.prog) w NP 4 ty (by decide)
      go_wp2
      go_ret
      exact ⟨rfl, HB.out 4⟩
set_option maxRecDepth 100000 in
theorem rune_walk11 (r : Int) (w : World) (h : 128 ≤ r) (hE : r ≠ 65533) (v1 : r < 55296) (E : ByteArray) (hEr : Utf8.encode r = E) (hz : E.size = 2) (x : UInt8) (hx : E[1]'(by omega) = x) (hx128 : 128 ≤ x.toNat) : Calls Tryz.prog 80 #[.string NP, .int .i32 r] w fun e w' => e = .returned (.int .i64 (-1)) ∧ Below w.heap.size w w' := by
  have h0 : (0 : Int) ≤ r := by omega
  have h1 : ¬ r < 128 := by omega
  have hne : (r == 65533) = false := by simpa using hE
  have hzi : (E.size : Int) = 2 := by omega
  have hib : Lib.indexByte (⟨#[13, 10]⟩ : ByteArray).data.toList x = -1 := by
    have n13 : ¬ ((13 : UInt8) = x) := by intro e; subst e; simp at hx128
    have n10 : ¬ ((10 : UInt8) = x) := by intro e; subst e; simp at hx128
    simp [Lib.indexByte, n13, n10]
  have dx : (((NP[1]'(by decide)).toNat : Int) != (x.toNat : Int)) = true := by
    have e : (NP[1]'(by decide)).toNat = 34 := by decide
    rw [e, bne_iff_ne]
    omega
  have hback : ((x.toNat : Int)).toNat.toUInt8 = x := by simp
  go_enter Tryz.func80, Tryz.ntmps80
  go_wp2
  go_step3
  go_wp2
  go_loopw [9] (fun iv wr => iv = .int .i64 1 ∧ wr = w) (fun _ _ => 0)
  case atStart => exact ⟨rfl, rfl⟩
  case round =>
    obtain ⟨rfl, rfl⟩ := hrel
    go_wp2
    go_step3
    go_wp2
    go_region
    go_wp2
    go_region_with (go_at_call 94; refine (Tryz.strings_IndexByte _ _ _).mono ?_; rintro e w' ⟨rfl, hw⟩; rw [hw])
    all_goals
      go_wp2
      rw [Exit.noGoto_ret]
      simp only [Exit.inBlock]
      show Exit.noGoto _ Exit.ret _ _
      rw [Exit.noGoto_ret]
      simp only [Exit.inBlock, Exit.then, Exit.noGoto_ret]
      go_ret
      exact ⟨rfl, by repeat (first | exact Below.refl _ _ | apply Below.drew)⟩
set_option maxRecDepth 100000 in
theorem rune_walk12 (r : Int) (w : World) (h : 128 ≤ r) (hE : r ≠ 65533) (v0 : 57344 ≤ r) (v1 : r ≤ 1114111) (E : ByteArray) (hEr : Utf8.encode r = E) (hz : E.size = 2) (x : UInt8) (hx : E[1]'(by omega) = x) (hx128 : 128 ≤ x.toNat) : Calls Tryz.prog 80 #[.string NP, .int .i32 r] w fun e w' => e = .returned (.int .i64 (-1)) ∧ Below w.heap.size w w' := by
  have h0 : (0 : Int) ≤ r := by omega
  have h1 : ¬ r < 128 := by omega
  have hne : (r == 65533) = false := by simpa using hE
  have hzi : (E.size : Int) = 2 := by omega
  have hib : Lib.indexByte (⟨#[13, 10]⟩ : ByteArray).data.toList x = -1 := by
    have n13 : ¬ ((13 : UInt8) = x) := by intro e; subst e; simp at hx128
    have n10 : ¬ ((10 : UInt8) = x) := by intro e; subst e; simp at hx128
    simp [Lib.indexByte, n13, n10]
  have dx : (((NP[1]'(by decide)).toNat : Int) != (x.toNat : Int)) = true := by
    have e : (NP[1]'(by decide)).toNat = 34 := by decide
    rw [e, bne_iff_ne]
    omega
  have hback : ((x.toNat : Int)).toNat.toUInt8 = x := by simp
  go_enter Tryz.func80, Tryz.ntmps80
  go_wp2
  go_step3
  go_wp2
  go_loopw [9] (fun iv wr => iv = .int .i64 1 ∧ wr = w) (fun _ _ => 0)
  case atStart => exact ⟨rfl, rfl⟩
  case round =>
    obtain ⟨rfl, rfl⟩ := hrel
    go_wp2
    go_step3
    go_wp2
    go_region
    go_wp2
    go_region_with (go_at_call 94; refine (Tryz.strings_IndexByte _ _ _).mono ?_; rintro e w' ⟨rfl, hw⟩; rw [hw])
    all_goals
      go_wp2
      rw [Exit.noGoto_ret]
      simp only [Exit.inBlock]
      show Exit.noGoto _ Exit.ret _ _
      rw [Exit.noGoto_ret]
      simp only [Exit.inBlock, Exit.then, Exit.noGoto_ret]
      go_ret
      exact ⟨rfl, by repeat (first | exact Below.refl _ _ | apply Below.drew)⟩
set_option maxRecDepth 100000 in
theorem rune_walk21 (r : Int) (w : World) (h : 128 ≤ r) (hE : r ≠ 65533) (v1 : r < 55296) (E : ByteArray) (hEr : Utf8.encode r = E) (hz : E.size = 3) (x : UInt8) (hx : E[2]'(by omega) = x) (hx128 : 128 ≤ x.toNat) : Calls Tryz.prog 80 #[.string NP, .int .i32 r] w fun e w' => e = .returned (.int .i64 (-1)) ∧ Below w.heap.size w w' := by
  have h0 : (0 : Int) ≤ r := by omega
  have h1 : ¬ r < 128 := by omega
  have hne : (r == 65533) = false := by simpa using hE
  have hzi : (E.size : Int) = 3 := by omega
  have hib : Lib.indexByte (⟨#[10]⟩ : ByteArray).data.toList x = -1 := by
    have n13 : ¬ ((13 : UInt8) = x) := by intro e; subst e; simp at hx128
    have n10 : ¬ ((10 : UInt8) = x) := by intro e; subst e; simp at hx128
    simp [Lib.indexByte, n13, n10]
  have dx : (((NP[2]'(by decide)).toNat : Int) != (x.toNat : Int)) = true := by
    have e : (NP[2]'(by decide)).toNat = 13 := by decide
    rw [e, bne_iff_ne]
    omega
  have hback : ((x.toNat : Int)).toNat.toUInt8 = x := by simp
  go_enter Tryz.func80, Tryz.ntmps80
  go_wp2
  go_step3
  go_wp2
  go_loopw [9] (fun iv wr => iv = .int .i64 2 ∧ wr = w) (fun _ _ => 0)
  case atStart => exact ⟨rfl, rfl⟩
  case round =>
    obtain ⟨rfl, rfl⟩ := hrel
    go_wp2
    go_step3
    go_wp2
    go_region
    go_wp2
    go_region_with (go_at_call 94; refine (Tryz.strings_IndexByte _ _ _).mono ?_; rintro e w' ⟨rfl, hw⟩; rw [hw])
    all_goals
      go_wp2
      rw [Exit.noGoto_ret]
      simp only [Exit.inBlock]
      show Exit.noGoto _ Exit.ret _ _
      rw [Exit.noGoto_ret]
      simp only [Exit.inBlock, Exit.then, Exit.noGoto_ret]
      go_ret
      exact ⟨rfl, by repeat (first | exact Below.refl _ _ | apply Below.drew)⟩
set_option maxRecDepth 100000 in
theorem rune_walk22 (r : Int) (w : World) (h : 128 ≤ r) (hE : r ≠ 65533) (v0 : 57344 ≤ r) (v1 : r ≤ 1114111) (E : ByteArray) (hEr : Utf8.encode r = E) (hz : E.size = 3) (x : UInt8) (hx : E[2]'(by omega) = x) (hx128 : 128 ≤ x.toNat) : Calls Tryz.prog 80 #[.string NP, .int .i32 r] w fun e w' => e = .returned (.int .i64 (-1)) ∧ Below w.heap.size w w' := by
  have h0 : (0 : Int) ≤ r := by omega
  have h1 : ¬ r < 128 := by omega
  have hne : (r == 65533) = false := by simpa using hE
  have hzi : (E.size : Int) = 3 := by omega
  have hib : Lib.indexByte (⟨#[10]⟩ : ByteArray).data.toList x = -1 := by
    have n13 : ¬ ((13 : UInt8) = x) := by intro e; subst e; simp at hx128
    have n10 : ¬ ((10 : UInt8) = x) := by intro e; subst e; simp at hx128
    simp [Lib.indexByte, n13, n10]
  have dx : (((NP[2]'(by decide)).toNat : Int) != (x.toNat : Int)) = true := by
    have e : (NP[2]'(by decide)).toNat = 13 := by decide
    rw [e, bne_iff_ne]
    omega
  have hback : ((x.toNat : Int)).toNat.toUInt8 = x := by simp
  go_enter Tryz.func80, Tryz.ntmps80
  go_wp2
  go_step3
  go_wp2
  go_loopw [9] (fun iv wr => iv = .int .i64 2 ∧ wr = w) (fun _ _ => 0)
  case atStart => exact ⟨rfl, rfl⟩
  case round =>
    obtain ⟨rfl, rfl⟩ := hrel
    go_wp2
    go_step3
    go_wp2
    go_region
    go_wp2
    go_region_with (go_at_call 94; refine (Tryz.strings_IndexByte _ _ _).mono ?_; rintro e w' ⟨rfl, hw⟩; rw [hw])
    all_goals
      go_wp2
      rw [Exit.noGoto_ret]
      simp only [Exit.inBlock]
      show Exit.noGoto _ Exit.ret _ _
      rw [Exit.noGoto_ret]
      simp only [Exit.inBlock, Exit.then, Exit.noGoto_ret]
      go_ret
      exact ⟨rfl, by repeat (first | exact Below.refl _ _ | apply Below.drew)⟩
set_option maxRecDepth 100000 in
theorem rune_walk31 (r : Int) (w : World) (h : 128 ≤ r) (hE : r ≠ 65533) (v1 : r < 55296) (E : ByteArray) (hEr : Utf8.encode r = E) (hz : E.size = 4) (x : UInt8) (hx : E[3]'(by omega) = x) (hx128 : 128 ≤ x.toNat) : Calls Tryz.prog 80 #[.string NP, .int .i32 r] w fun e w' => e = .returned (.int .i64 (-1)) ∧ Below w.heap.size w w' := by
  have h0 : (0 : Int) ≤ r := by omega
  have h1 : ¬ r < 128 := by omega
  have hne : (r == 65533) = false := by simpa using hE
  have hzi : (E.size : Int) = 4 := by omega
  have hib : Lib.indexByte (⟨#[]⟩ : ByteArray).data.toList x = -1 := by
    have n13 : ¬ ((13 : UInt8) = x) := by intro e; subst e; simp at hx128
    have n10 : ¬ ((10 : UInt8) = x) := by intro e; subst e; simp at hx128
    simp [Lib.indexByte, n13, n10]
  have dx : (((NP[3]'(by decide)).toNat : Int) != (x.toNat : Int)) = true := by
    have e : (NP[3]'(by decide)).toNat = 10 := by decide
    rw [e, bne_iff_ne]
    omega
  have hback : ((x.toNat : Int)).toNat.toUInt8 = x := by simp
  go_enter Tryz.func80, Tryz.ntmps80
  go_wp2
  go_step3
  go_wp2
  go_loopw [9] (fun iv wr => iv = .int .i64 3 ∧ wr = w) (fun _ _ => 0)
  case atStart => exact ⟨rfl, rfl⟩
  case round =>
    obtain ⟨rfl, rfl⟩ := hrel
    go_wp2
    go_step3
    go_wp2
    go_region
    go_wp2
    go_region_with (go_at_call 94; refine (Tryz.strings_IndexByte _ _ _).mono ?_; rintro e w' ⟨rfl, hw⟩; rw [hw])
    all_goals
      go_wp2
      rw [Exit.noGoto_ret]
      simp only [Exit.inBlock]
      show Exit.noGoto _ Exit.ret _ _
      rw [Exit.noGoto_ret]
      simp only [Exit.inBlock, Exit.then, Exit.noGoto_ret]
      go_ret
      exact ⟨rfl, by repeat (first | exact Below.refl _ _ | apply Below.drew)⟩
set_option maxRecDepth 100000 in
theorem rune_walk32 (r : Int) (w : World) (h : 128 ≤ r) (hE : r ≠ 65533) (v0 : 57344 ≤ r) (v1 : r ≤ 1114111) (E : ByteArray) (hEr : Utf8.encode r = E) (hz : E.size = 4) (x : UInt8) (hx : E[3]'(by omega) = x) (hx128 : 128 ≤ x.toNat) : Calls Tryz.prog 80 #[.string NP, .int .i32 r] w fun e w' => e = .returned (.int .i64 (-1)) ∧ Below w.heap.size w w' := by
  have h0 : (0 : Int) ≤ r := by omega
  have h1 : ¬ r < 128 := by omega
  have hne : (r == 65533) = false := by simpa using hE
  have hzi : (E.size : Int) = 4 := by omega
  have hib : Lib.indexByte (⟨#[]⟩ : ByteArray).data.toList x = -1 := by
    have n13 : ¬ ((13 : UInt8) = x) := by intro e; subst e; simp at hx128
    have n10 : ¬ ((10 : UInt8) = x) := by intro e; subst e; simp at hx128
    simp [Lib.indexByte, n13, n10]
  have dx : (((NP[3]'(by decide)).toNat : Int) != (x.toNat : Int)) = true := by
    have e : (NP[3]'(by decide)).toNat = 10 := by decide
    rw [e, bne_iff_ne]
    omega
  have hback : ((x.toNat : Int)).toNat.toUInt8 = x := by simp
  go_enter Tryz.func80, Tryz.ntmps80
  go_wp2
  go_step3
  go_wp2
  go_loopw [9] (fun iv wr => iv = .int .i64 3 ∧ wr = w) (fun _ _ => 0)
  case atStart => exact ⟨rfl, rfl⟩
  case round =>
    obtain ⟨rfl, rfl⟩ := hrel
    go_wp2
    go_step3
    go_wp2
    go_region
    go_wp2
    go_region_with (go_at_call 94; refine (Tryz.strings_IndexByte _ _ _).mono ?_; rintro e w' ⟨rfl, hw⟩; rw [hw])
    all_goals
      go_wp2
      rw [Exit.noGoto_ret]
      simp only [Exit.inBlock]
      show Exit.noGoto _ Exit.ret _ _
      rw [Exit.noGoto_ret]
      simp only [Exit.inBlock, Exit.then, Exit.noGoto_ret]
      go_ret
      exact ⟨rfl, by repeat (first | exact Below.refl _ _ | apply Below.drew)⟩
theorem rune_high (r : Int) (w : World) (h : 128 ≤ r) (hv : Utf8.valid r = true) (hE : r ≠ 65533) : Calls Tryz.prog 80 #[.string NP, .int .i32 r] w fun e w' => e = .returned (.int .i64 (-1)) ∧ Below w.heap.size w w' := by
  have hvv : (0 ≤ r ∧ r < 55296) ∨ (57344 ≤ r ∧ r ≤ 1114111) := by
    unfold Utf8.valid at hv
    simp at hv
    omega
  obtain ⟨e1, e2, e3⟩ := encode_facts r hv h
  obtain ⟨E, hEE⟩ : ∃ E, E = Utf8.encode r := ⟨_, rfl⟩
  rw [← hEE] at e1 e2 e3
  have hz : E.size = 2 ∨ E.size = 3 ∨ E.size = 4 := by omega
  rcases hz with hz | hz | hz <;> rcases hvv with ⟨_, v1⟩ | ⟨v0, v1⟩
  · exact rune_walk11 r w h hE v1 E hEE.symm hz _ rfl (by have := e3 (by omega); simpa [hz] using this)
  · exact rune_walk12 r w h hE v0 v1 E hEE.symm hz _ rfl (by have := e3 (by omega); simpa [hz] using this)
  · exact rune_walk21 r w h hE v1 E hEE.symm hz _ rfl (by have := e3 (by omega); simpa [hz] using this)
  · exact rune_walk22 r w h hE v0 v1 E hEE.symm hz _ rfl (by have := e3 (by omega); simpa [hz] using this)
  · exact rune_walk31 r w h hE v1 E hEE.symm hz _ rfl (by have := e3 (by omega); simpa [hz] using this)
  · exact rune_walk32 r w h hE v0 v1 E hEE.symm hz _ rfl (by have := e3 (by omega); simpa [hz] using this)
end Go.Proofs.YtkficmbkoinjjaaGreatDoor
/- strings.IndexAny and strings.ContainsAny of whatever text, over the four bytes that a plain cell has none of. -/
namespace Go.Proofs.YtkficmbkoinjjaaGreatDoor
open Go Go.RowKit Go.Lib
set_option maxHeartbeats 2000000
set_option linter.unusedVariables false
set_option linter.unusedSimpArgs false
theorem np_high (b : UInt8) (h : 128 ≤ b.toNat) : NP.data.toList.contains b = false := by
  have n1 : ¬ (b = (44 : UInt8)) := by intro e; subst e; simp at h
  have n2 : ¬ (b = (34 : UInt8)) := by intro e; subst e; simp at h
  have n3 : ¬ (b = (13 : UInt8)) := by intro e; subst e; simp at h
  have n4 : ¬ (b = (10 : UInt8)) := by intro e; subst e; simp at h
  simp [n1, n2, n3, n4]
theorem noAny_skip {s : ByteArray} {i k : Nat} (h : NoAny s.data.toList NP.data.toList i) (hk : ∀ t, t < k → i + t < s.size ∧ 128 ≤ (s.get! (i + t)).toNat) : NoAny s.data.toList NP.data.toList (i + k) := by
  intro j b hj hb
  by_cases hji : j < i
  · exact h j b hji hb
  · obtain ⟨h1, h2⟩ := hk (j - i) (by omega)
    rw [show i + (j - i) = j by omega] at h1 h2
    rw [data_getElem? s j h1] at hb
    obtain rfl := Option.some.inj hb
    rw [get_is s j h1] at h2
    exact np_high _ h2
theorem set_zero : ∀ w, (zeroValue 117).run Tryz.prog w = .ok (.agg (Array.replicate 256 (.bool false))) w := (zero_of_info (P := Tryz.prog) (t := 117) (n := 256) (by kernel_rfl)).1
theorem rune_any (r : Int) (w : World) (h : 128 ≤ r) (hv : Utf8.valid r = true) : Calls Tryz.prog 80 #[.string NP, .int .i32 r] w fun e w' => e = .returned (.int .i64 (-1)) ∧ Below w.heap.size w w' := by
  by_cases hE : r = 65533
  · subst hE; exact rune_err w
  · exact rune_high r w h hv hE
theorem np_ascii : ∀ (j : Nat) b, NP.data.toList[j]? = some b → b.toNat < 128 := by
  intro j b h
  have hm := List.mem_of_getElem? h
  simp at hm
  rcases hm with rfl | rfl | rfl | rfl <;> decide
set_option maxRecDepth 100000 in
theorem indexAny_any (s : ByteArray) (w : World) (hs : s.size < 4294967281) : Calls Tryz.prog 68 #[.string s, .string NP] w fun e w' => e = .returned (.int .i64 (Lib.indexAny s.data.toList NP.data.toList)) ∧ Below w.heap.size w w' := by
  by_cases h8 : 8 < s.size
  · refine (Tryz.strings_IndexAny_long set_zero s NP w (by decide) h8 hs (by decide) np_ascii).mono fun e w' ⟨h1, h2⟩ => ⟨h1, ?_⟩
    rw [h2]
    exact ((Below.refl _ _).alloc (Nat.le_refl _) _).alloc (by simp) _
  · have h8z : decide ((8 : Int) < (s.size : Int)) = false := decide_eq_false (by omega)
    have HB0 : Hid (Below w.heap.size w (w.iter s 0)) := (Below.refl _ _).alloc (Nat.le_refl _) _
    have HK0 : Hid ((w.iter s 0).heap[w.heap.size]? = some (.stringIter s 0)) := World.iter_heap w s 0
    obtain ⟨k, hk⟩ : ∃ k, k = w.heap.size := ⟨_, rfl⟩
    have HKK := Lib.hid hk
    rw [← hk] at HK0
    go_enter Tryz.func68, Tryz.ntmps68
    go_wp2_with (go_at_call 81; refine (Tryz.strings_shouldUseASCIISet _ _).mono ?_; rintro e w' ⟨rfl, hw⟩; rw [hw, h8z])
    rw [← hk]
    clear hk
    go_loopg [9, 10] s.size (fun g _ _ wx => ∃ i : Nat, i + g = s.size ∧ wx.heap[k]? = some (.stringIter s i) ∧ Below w.heap.size w wx ∧ NoAny s.data.toList NP.data.toList i)
    case atStart => exact ⟨0, by omega, HK0.out, HB0.out, NoAny.zero _ _⟩
    case round =>
      obtain ⟨i, hig, hki, hb, hno⟩ := hrel
      have HB := Lib.hid hb
      have HN := Lib.hid hno
      have HKI := Lib.hid hki
      clear hb hno
      cases gk with
      | zero =>
        obtain rfl : i = s.size := by omega
        have hnx := fun ty => run_next_end_at (P := Tryz.prog) wr k s s.size ty hki (by omega)
        go_wp2
        go_ret
        exact ⟨by rw [Lib.indexAny_none (by rw [← Lib.size_eq]; exact HN.out)]; rfl, HB.out⟩
      | succ g =>
        have hi : i < s.size := by omega
        by_cases hx128 : (s[i]'hi).toNat < 128
        · obtain ⟨x, hx⟩ : ∃ x : UInt8, s[i]'hi = x := ⟨_, rfl⟩
          have hxl : s.data.toList[i]? = some x := by rw [← hx]; exact Lib.data_getElem? s i hi
          have hnx := fun ty => run_next_ascii_at (P := Tryz.prog) wr k s i ty hki hi hx128
          rw [hx] at hnx hx128
          have Hx := Lib.hid hxl
          have HB2 : Hid (Below w.heap.size w (wr.iterAt k s (i + 1))) := below_iterAt HB.out (by have := HKK.out; omega) s (i + 1)
          have HK2 : Hid ((wr.iterAt k s (i + 1)).heap[k]? = some (.stringIter s (i + 1))) := iterAt_heap wr k s i (i + 1) hki
          have hcon := Lib.contains_iff_indexByte NP.data.toList x
          have hback : ((x.toNat : Int)).toNat.toUInt8 = x := by simp
          clear hxl hx hki
          obtain ⟨w2, hw2⟩ : ∃ w2, w2 = wr.iterAt k s (i + 1) := ⟨_, rfl⟩
          rw [← hw2] at hnx HB2 HK2
          clear hw2
          cases hin : NP.data.toList.contains x
          · rw [hin] at hcon
            have hlt : ¬ ((0 : Int) ≤ Lib.indexByte NP.data.toList x) := of_decide_eq_false hcon.symm
            have HIN := Lib.hid hin
            clear hcon hin
            obtain ⟨z, hz⟩ : ∃ z, z = Lib.indexByte NP.data.toList x := ⟨_, rfl⟩
            rw [← hz] at hlt
            have HR : Hid (∀ wx, Calls Tryz.prog 80 #[.string NP, .int .i32 x.toNat] wx fun e w' => e = .returned (.int .i64 z) ∧ w' = wx) := fun wx => by
              have := Tryz.strings_IndexRune_ascii NP (x.toNat : Int) wx (by omega) (by omega)
              rw [hback, ← hz] at this
              exact this
            clear hz
            go_wp2_with (go_at_call 80; refine (HR.out _).mono ?_; rintro e w' ⟨rfl, hw⟩; rw [hw])
            go_roundg g
            case measure => omega
            case rel => exact ⟨i + 1, by omega, HK2.out, HB2.out, HN.out.succ Hx.out HIN.out⟩
          · rw [hin] at hcon
            have hge : (0 : Int) ≤ Lib.indexByte NP.data.toList x := of_decide_eq_true hcon.symm
            have HIN := Lib.hid hin
            clear hcon hin
            obtain ⟨z, hz⟩ : ∃ z, z = Lib.indexByte NP.data.toList x := ⟨_, rfl⟩
            rw [← hz] at hge
            have HR : Hid (∀ wx, Calls Tryz.prog 80 #[.string NP, .int .i32 x.toNat] wx fun e w' => e = .returned (.int .i64 z) ∧ w' = wx) := fun wx => by
              have := Tryz.strings_IndexRune_ascii NP (x.toNat : Int) wx (by omega) (by omega)
              rw [hback, ← hz] at this
              exact this
            clear hz
            go_wp2_with (go_at_call 80; refine (HR.out _).mono ?_; rintro e w' ⟨rfl, hw⟩; rw [hw])
            go_ret
            exact ⟨by rw [Lib.indexAny_hit HN.out Hx.out HIN.out]; rfl, HB2.out⟩
        · have hhi : 128 ≤ (s[i]'hi).toNat := by omega
          have hnx := fun ty => run_next_any_at (P := Tryz.prog) wr k s i ty hki hi
          obtain ⟨hd1, hd2⟩ := decode_high s i hi hhi
          have hv := decode_valid s i hi hhi
          have hcont := decode_cont s i hi hhi
          obtain ⟨r, hr⟩ : ∃ r, r = (Utf8.decode s i).1 := ⟨_, rfl⟩
          obtain ⟨m, hm⟩ : ∃ m, m = (Utf8.decode s i).2 := ⟨_, rfl⟩
          rw [← hr] at hnx hv hd1
          rw [← hm] at hnx hcont hd2
          have hsz : i + m ≤ s.size := by have := (hcont (m - 1) (by omega)).1; omega
          have HB2 : Hid (Below w.heap.size w (wr.iterAt k s (i + m))) := below_iterAt HB.out (by have := HKK.out; omega) s (i + m)
          have HK2 : Hid ((wr.iterAt k s (i + m)).heap[k]? = some (.stringIter s (i + m))) := iterAt_heap wr k s i (i + m) hki
          have HN2 := Lib.hid (noAny_skip HN.out hcont)
          have HR : Hid (∀ wx, Calls Tryz.prog 80 #[.string NP, .int .i32 r] wx fun e w' => e = .returned (.int .i64 (-1)) ∧ Below wx.heap.size wx w') := fun wx => rune_any (r : Int) wx (by omega) hv
          obtain ⟨w2, hw2⟩ : ∃ w2, w2 = wr.iterAt k s (i + m) := ⟨_, rfl⟩
          rw [← hw2] at hnx HB2 HK2
          clear hw2 hr hm hv hcont hki
          go_wp2_with fail
          refine (HR.out _).mono ?_
          rintro e w3 ⟨rfl, hb3⟩
          have HB3 : Hid (Below w.heap.size w w3) := HB2.out.trans (hb3.mono HB2.out.size)
          have HK3 : Hid (w3.heap[k]? = some (.stringIter s (i + m))) := by
            have hlt : k < w2.heap.size := (Array.getElem?_eq_some_iff.1 HK2.out).1
            show _ = _
            rw [hb3.block k hlt]
            exact HK2.out
          clear hb3 hnx
          go_wp2
          go_roundg (s.size - (i + m))
          case measure => omega
          case rel => exact ⟨i + m, by omega, HK3.out, HB3.out, HN2.out⟩
end Go.Proofs.YtkficmbkoinjjaaGreatDoor
