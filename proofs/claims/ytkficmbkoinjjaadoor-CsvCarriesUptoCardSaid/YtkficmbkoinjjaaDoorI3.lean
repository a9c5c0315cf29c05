/- strings.IndexAny and strings.ContainsAny of whatever text, over the four bytes that a plain cell has none of. -/
import Derived.Test.YtkficmbkoinjjaaDoorI1
import Derived.Test.YtkficmbkoinjjaaDoorI2
namespace Go.Proofs.YtkficmbkoinjjaaDoor
open Go Go.RowKit Go.Lib
set_option maxHeartbeats 2000000
set_option linter.unusedVariables false
set_option linter.unusedSimpArgs false
theorem np_high (b : UInt8) (h : 128 ≤ b.toNat) : NP.data.toList.contains b = false := by
  have n1 : ¬ (b = (44 : UInt8)) := by intro e; subst e; simp at h
  have n2 : ¬ (b = (34 : UInt8)) := by intro e; subst e; simp at h
  have n3 : ¬ (b = (13 : UInt8)) := by intro e; subst e; simp at h
  have n4 : ¬ (b = (10 : UInt8)) := by intro e; subst e; simp at h
  simp [n1, n2, n3, n4]
theorem noAny_skip {s : ByteArray} {i k : Nat} (h : NoAny s.data.toList NP.data.toList i) (hk : ∀ t, t < k → i + t < s.size ∧ 128 ≤ (s.get! (i + t)).toNat) : NoAny s.data.toList NP.data.toList (i + k) := by
  intro j b hj hb
  by_cases hji : j < i
  · exact h j b hji hb
  · obtain ⟨h1, h2⟩ := hk (j - i) (by omega)
    rw [show i + (j - i) = j by omega] at h1 h2
    rw [data_getElem? s j h1] at hb
    obtain rfl := Option.some.inj hb
    rw [get_is s j h1] at h2
    exact np_high _ h2
theorem set_zero : ∀ w, (zeroValue 92).run Tryd.prog w = .ok (.agg (Array.replicate 256 (.bool false))) w := (zero_of_info (P := Tryd.prog) (t := 92) (n := 256) (by kernel_rfl)).1
theorem rune_any (r : Int) (w : World) (h : 128 ≤ r) (hv : Utf8.valid r = true) : Calls Tryd.prog 50 #[.string NP, .int .i32 r] w fun e w' => e = .returned (.int .i64 (-1)) ∧ Below w.heap.size w w' := by
  by_cases hE : r = 65533
  · subst hE; exact rune_err w
  · exact rune_high r w h hv hE
theorem np_ascii : ∀ (j : Nat) b, NP.data.toList[j]? = some b → b.toNat < 128 := by
  intro j b h
  have hm := List.mem_of_getElem? h
  simp at hm
  rcases hm with rfl | rfl | rfl | rfl <;> decide
set_option maxRecDepth 100000 in
theorem indexAny_any (s : ByteArray) (w : World) (hs : s.size < 4294967281) : Calls Tryd.prog 44 #[.string s, .string NP] w fun e w' => e = .returned (.int .i64 (Lib.indexAny s.data.toList NP.data.toList)) ∧ Below w.heap.size w w' := by
  by_cases h8 : 8 < s.size
  · refine (Tryd.strings_IndexAny_long set_zero s NP w (by decide) h8 hs (by decide) np_ascii).mono fun e w' ⟨h1, h2⟩ => ⟨h1, ?_⟩
    rw [h2]
    exact ((Below.refl _ _).alloc (Nat.le_refl _) _).alloc (by simp) _
  · have h8z : decide ((8 : Int) < (s.size : Int)) = false := decide_eq_false (by omega)
    have HB0 : Hid (Below w.heap.size w (w.iter s 0)) := (Below.refl _ _).alloc (Nat.le_refl _) _
    have HK0 : Hid ((w.iter s 0).heap[w.heap.size]? = some (.stringIter s 0)) := World.iter_heap w s 0
    obtain ⟨k, hk⟩ : ∃ k, k = w.heap.size := ⟨_, rfl⟩
    have HKK := Lib.hid hk
    rw [← hk] at HK0
    go_enter Tryd.func44, Tryd.ntmps44
    go_wp2_with (go_at_call 51; refine (Tryd.strings_shouldUseASCIISet _ _).mono ?_; rintro e w' ⟨rfl, hw⟩; rw [hw, h8z])
    rw [← hk]
    clear hk
    go_loopg [9, 10] s.size (fun g _ _ wx => ∃ i : Nat, i + g = s.size ∧ wx.heap[k]? = some (.stringIter s i) ∧ Below w.heap.size w wx ∧ NoAny s.data.toList NP.data.toList i)
    case atStart => exact ⟨0, by omega, HK0.out, HB0.out, NoAny.zero _ _⟩
    case round =>
      obtain ⟨i, hig, hki, hb, hno⟩ := hrel
      have HB := Lib.hid hb
      have HN := Lib.hid hno
      have HKI := Lib.hid hki
      clear hb hno
      cases gk with
      | zero =>
        obtain rfl : i = s.size := by omega
        have hnx := fun ty => run_next_end_at (P := Tryd.prog) wr k s s.size ty hki (by omega)
        go_wp2
        go_ret
        exact ⟨by rw [Lib.indexAny_none (by rw [← Lib.size_eq]; exact HN.out)]; rfl, HB.out⟩
      | succ g =>
        have hi : i < s.size := by omega
        by_cases hx128 : (s[i]'hi).toNat < 128
        · obtain ⟨x, hx⟩ : ∃ x : UInt8, s[i]'hi = x := ⟨_, rfl⟩
          have hxl : s.data.toList[i]? = some x := by rw [← hx]; exact Lib.data_getElem? s i hi
          have hnx := fun ty => run_next_ascii_at (P := Tryd.prog) wr k s i ty hki hi hx128
          rw [hx] at hnx hx128
          have Hx := Lib.hid hxl
          have HB2 : Hid (Below w.heap.size w (wr.iterAt k s (i + 1))) := below_iterAt HB.out (by have := HKK.out; omega) s (i + 1)
          have HK2 : Hid ((wr.iterAt k s (i + 1)).heap[k]? = some (.stringIter s (i + 1))) := iterAt_heap wr k s i (i + 1) hki
          have hcon := Lib.contains_iff_indexByte NP.data.toList x
          have hback : ((x.toNat : Int)).toNat.toUInt8 = x := by simp
          clear hxl hx hki
          obtain ⟨w2, hw2⟩ : ∃ w2, w2 = wr.iterAt k s (i + 1) := ⟨_, rfl⟩
          rw [← hw2] at hnx HB2 HK2
          clear hw2
          cases hin : NP.data.toList.contains x
          · rw [hin] at hcon
            have hlt : ¬ ((0 : Int) ≤ Lib.indexByte NP.data.toList x) := of_decide_eq_false hcon.symm
            have HIN := Lib.hid hin
            clear hcon hin
            obtain ⟨z, hz⟩ : ∃ z, z = Lib.indexByte NP.data.toList x := ⟨_, rfl⟩
            rw [← hz] at hlt
            have HR : Hid (∀ wx, Calls Tryd.prog 50 #[.string NP, .int .i32 x.toNat] wx fun e w' => e = .returned (.int .i64 z) ∧ w' = wx) := fun wx => by
              have := Tryd.strings_IndexRune_ascii NP (x.toNat : Int) wx (by omega) (by omega)
              rw [hback, ← hz] at this
              exact this
            clear hz
            go_wp2_with (go_at_call 50; refine (HR.out _).mono ?_; rintro e w' ⟨rfl, hw⟩; rw [hw])
            go_roundg g
            case measure => omega
            case rel => exact ⟨i + 1, by omega, HK2.out, HB2.out, HN.out.succ Hx.out HIN.out⟩
          · rw [hin] at hcon
            have hge : (0 : Int) ≤ Lib.indexByte NP.data.toList x := of_decide_eq_true hcon.symm
            have HIN := Lib.hid hin
            clear hcon hin
            obtain ⟨z, hz⟩ : ∃ z, z = Lib.indexByte NP.data.toList x := ⟨_, rfl⟩
            rw [← hz] at hge
            have HR : Hid (∀ wx, Calls Tryd.prog 50 #[.string NP, .int .i32 x.toNat] wx fun e w' => e = .returned (.int .i64 z) ∧ w' = wx) := fun wx => by
              have := Tryd.strings_IndexRune_ascii NP (x.toNat : Int) wx (by omega) (by omega)
              rw [hback, ← hz] at this
              exact this
            clear hz
            go_wp2_with (go_at_call 50; refine (HR.out _).mono ?_; rintro e w' ⟨rfl, hw⟩; rw [hw])
            go_ret
            exact ⟨by rw [Lib.indexAny_hit HN.out Hx.out HIN.out]; rfl, HB2.out⟩
        · have hhi : 128 ≤ (s[i]'hi).toNat := by omega
          have hnx := fun ty => run_next_any_at (P := Tryd.prog) wr k s i ty hki hi
          obtain ⟨hd1, hd2⟩ := decode_high s i hi hhi
          have hv := decode_valid s i hi hhi
          have hcont := decode_cont s i hi hhi
          obtain ⟨r, hr⟩ : ∃ r, r = (Utf8.decode s i).1 := ⟨_, rfl⟩
          obtain ⟨m, hm⟩ : ∃ m, m = (Utf8.decode s i).2 := ⟨_, rfl⟩
          rw [← hr] at hnx hv hd1
          rw [← hm] at hnx hcont hd2
          have hsz : i + m ≤ s.size := by have := (hcont (m - 1) (by omega)).1; omega
          have HB2 : Hid (Below w.heap.size w (wr.iterAt k s (i + m))) := below_iterAt HB.out (by have := HKK.out; omega) s (i + m)
          have HK2 : Hid ((wr.iterAt k s (i + m)).heap[k]? = some (.stringIter s (i + m))) := iterAt_heap wr k s i (i + m) hki
          have HN2 := Lib.hid (noAny_skip HN.out hcont)
          have HR : Hid (∀ wx, Calls Tryd.prog 50 #[.string NP, .int .i32 r] wx fun e w' => e = .returned (.int .i64 (-1)) ∧ Below wx.heap.size wx w') := fun wx => rune_any (r : Int) wx (by omega) hv
          obtain ⟨w2, hw2⟩ : ∃ w2, w2 = wr.iterAt k s (i + m) := ⟨_, rfl⟩
          rw [← hw2] at hnx HB2 HK2
          clear hw2 hr hm hv hcont hki
          go_wp2_with fail
          refine (HR.out _).mono ?_
          rintro e w3 ⟨rfl, hb3⟩
          have HB3 : Hid (Below w.heap.size w w3) := HB2.out.trans (hb3.mono HB2.out.size)
          have HK3 : Hid (w3.heap[k]? = some (.stringIter s (i + m))) := by
            have hlt : k < w2.heap.size := (Array.getElem?_eq_some_iff.1 HK2.out).1
            show _ = _
            rw [hb3.block k hlt]
            exact HK2.out
          clear hb3 hnx
          go_wp2
          go_roundg (s.size - (i + m))
          case measure => omega
          case rel => exact ⟨i + m, by omega, HK3.out, HB3.out, HN2.out⟩
end Go.Proofs.YtkficmbkoinjjaaDoor
