/- Contract of package schema's has: is an attribute of that name among these? -/
import Derived.Test.YtpfpganlghjhjaaDoorA3
namespace Go.Proofs.YtpfpganlghjhjaaDoor
open Go Go.RowKit
set_option maxHeartbeats 1000000
set_option linter.unusedVariables false
set_option linter.unusedSimpArgs false
theorem lt_of_cell {w : World} {b : Nat} {o : Nat} {v : Value} (h : w.cell? ⟨b, o, none⟩ = some v) : b < w.heap.size := by
  rcases Nat.lt_or_ge b w.heap.size with hlt | hge
  · exact hlt
  · simp [World.cell?, Array.getElem?_eq_none hge] at h
/-- a row of attributes lies there -/
def AtRow (w : World) (p : Option Addr) (l : List (ByteArray × Int)) : Prop := ∀ i (h : i < l.length), ∃ b o, p = some ⟨b, o, none⟩ ∧ w.cell? ⟨b, o + i * 2, none⟩ = some (.string l[i].1) ∧ w.cell? ⟨b, o + i * 2 + 1, none⟩ = some (.int .i64 l[i].2)
theorem AtRow.below {w w' : World} {p : Option Addr} {l : List (ByteArray × Int)} (h : AtRow w p l) (hb : Below w.heap.size w w') : AtRow w' p l := by
  intro i hi
  obtain ⟨b, o, e, h1, h2⟩ := h i hi
  have hl := lt_of_cell h1
  exact ⟨b, o, e, (hb.cell (p := ⟨b, o + i * 2, none⟩) hl).trans h1, (hb.cell (p := ⟨b, o + i * 2 + 1, none⟩) hl).trans h2⟩
def hasN (l : List (ByteArray × Int)) (s : List UInt8) : Bool := l.any fun a => a.1.toList == s
theorem hasN_take {l : List (ByteArray × Int)} {k : Nat} (h : k < l.length) (s : List UInt8) : hasN (l.take (k + 1)) s = (hasN (l.take k) s || l[k].1.toList == s) := by
  unfold hasN
  rw [List.take_add_one, List.any_append, List.getElem?_eq_getElem h]
  simp
theorem hasN_found {l : List (ByteArray × Int)} {k n : Nat} (hn : k < n) (h : k < l.length) {s : List UInt8} (he : (l[k].1.toList == s) = true) : hasN (l.take n) s = true := by
  unfold hasN
  rw [List.any_eq_true]
  refine ⟨l[k], ?_, he⟩
  rw [List.mem_take_iff_getElem]
  exact ⟨k, by omega, rfl⟩
set_option maxRecDepth 100000 in
theorem has_any (l : List (ByteArray × Int)) (p : Option Addr) (n c : Nat) (s : ByteArray) (hn : n ≤ l.length) (hm : n ≤ maxLen) (w : World) (hr : AtRow w p l) :
    Calls Tryd.prog 33 #[.slice p n c, .string s] w fun e w' => e = .returned (.bool (hasN (l.take n) s.toList)) ∧ Below w.heap.size w w' := by
  have HR := Lib.hid hr
  unfold maxLen at hm
  clear hr
  go_enter Tryd.func33, Tryd.ntmps33
  go_wp2
  go_loopw [9] (fun i wr => ∃ k : Nat, k ≤ n ∧ i = .int .i64 k ∧ Below w.heap.size w wr ∧ hasN (l.take k) s.toList = false) (fun i _ => n - (intOf i).toNat)
  case atStart => exact ⟨0, Nat.zero_le _, rfl, Below.refl _ _, rfl⟩
  case round =>
    obtain ⟨k, hk, rfl, hb, hno⟩ := hrel
    have HB := Lib.hid hb
    have HNO := Lib.hid hno
    by_cases hlt : k < n
    · obtain ⟨b, o, rfl, c0, c1⟩ := HR.out k (by omega)
      have z0 := lt_of_cell c0
      have d0 := (hb.cell (p := ⟨b, o + k * 2, none⟩) (by exact z0)).trans c0
      have d1 := (hb.cell (p := ⟨b, o + k * 2 + 1, none⟩) (by exact z0)).trans c1
      have zs := hb.size
      clear c0 c1 hb hno
      obtain ⟨nm, hnm⟩ : ∃ nm, nm = l[k].1 := ⟨_, rfl⟩
      obtain ⟨kd, hkd⟩ : ∃ kd, kd = l[k].2 := ⟨_, rfl⟩
      rw [← hnm] at d0
      rw [← hkd] at d1
      have HNM := Lib.hid hnm
      clear hnm hkd
      cases hq : (nm.toList == s.toList)
      · have HQ := Lib.hid hq
        go_wp2
        go_roundw
        case rel => exact ⟨k + 1, by omega, by go_num, HB.out.alloc zs _, by rw [hasN_take (by omega), HNO.out, ← HNM.out, HQ.out]; rfl⟩
        case measure => simp [intOf]; omega
      · have HQ := Lib.hid hq
        go_wp2
        go_ret
        exact ⟨by rw [hasN_found hlt (by omega) (by rw [← HNM.out]; exact HQ.out)]; rfl, HB.out.alloc zs _⟩
    · have hkk : k = n := by omega
      subst hkk
      clear hb hno
      go_wp2
      go_ret
      exact ⟨by rw [HNO.out]; rfl, HB.out⟩
end Go.Proofs.YtpfpganlghjhjaaDoor
