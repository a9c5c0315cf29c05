/- Contracts of package schema's small functions: bytes of a word, words of the language, names. -/
import Derived.Test.YtdafnkfnaknoiaaDoorRows
import Derived.WalkKit
import Derived.WalkSpells
import Derived.WalkLawsBesides
import Derived.Lib.Hide
import Derived.LoopN
import Derived.LoopTactic
import Derived.Laws.RangeAny
import Derived.Laws.RangeString
namespace Go.Proofs.YtdafnkfnaknoiaaDoor
open Go Go.RowKit
set_option maxHeartbeats 1000000
set_option linter.unusedVariables false
set_option linter.unusedSimpArgs false
theorem bcell {B : Nat} {W w1 : World} (hb : Below B W w1) : (∀ b o, b < B → w1.cell? ⟨b, o, none⟩ = W.cell? ⟨b, o, none⟩) ∧ (∀ b o, b < B → w1.frozen? ⟨b, o, none⟩ = W.frozen? ⟨b, o, none⟩) :=
  ⟨fun b o h => hb.cell (p := ⟨b, o, none⟩) h, fun b o h => hb.frozen (p := ⟨b, o, none⟩) h⟩
def dgt (c : Int) : Bool := decide (48 ≤ c) && decide (c ≤ 57)
def ltr (c : Int) : Bool := (decide (97 ≤ c) && decide (c ≤ 122)) || (decide (65 ≤ c) && decide (c ≤ 90))
def wch (c : Int) : Bool := dgt c || ltr c || c == 95
theorem isDigit_any (c : Int) (w : World) : Calls Tryd.prog 47 #[.int .i32 c] w fun e w' => e = .returned (.bool (dgt c)) ∧ w' = w := by
  by_cases h1 : 48 ≤ c
  · by_cases h2 : c ≤ 57
    · have He : Hid (dgt c = true) := by show _ = _; simp [dgt, h1, h2]
      go_enter Tryd.func47, Tryd.ntmps47
      go_wp2
      go_ret
      exact ⟨by rw [He.out]; first | rfl | (simp; omega), by first | rfl | trivial⟩
    · have He : Hid (dgt c = false) := by show _ = _; simp [dgt, h2]
      go_enter Tryd.func47, Tryd.ntmps47
      go_wp2
      go_ret
      exact ⟨by rw [He.out]; first | rfl | (simp; omega), by first | rfl | trivial⟩
  · have He : Hid (dgt c = false) := by show _ = _; simp [dgt, h1]
    go_enter Tryd.func47, Tryd.ntmps47
    go_wp2
    go_ret
    exact ⟨by rw [He.out]; first | rfl | (simp; omega), by first | rfl | trivial⟩
theorem isLetter_any (c : Int) (w : World) : Calls Tryd.prog 64 #[.int .i32 c] w fun e w' => e = .returned (.bool (ltr c)) ∧ w' = w := by
  have hx : (97 ≤ c ∧ c ≤ 122) ∨ (97 ≤ c ∧ 122 < c) ∨ (65 ≤ c ∧ c ≤ 90) ∨ (90 < c ∧ c < 97) ∨ c < 65 := by omega
  have close : ∀ r, ltr c = r → Calls Tryd.prog 64 #[.int .i32 c] w (fun e w' => e = .returned (.bool r) ∧ w' = w) → Calls Tryd.prog 64 #[.int .i32 c] w (fun e w' => e = .returned (.bool (ltr c)) ∧ w' = w) := fun r h1 h2 => by rw [h1]; exact h2
  rcases hx with h | h | h | h | h
  · refine close true (by simp [ltr]; omega) ?_
    go_enter Tryd.func64, Tryd.ntmps64
    go_wp2
    go_ret
    exact ⟨by first | rfl | (simp; omega), by first | rfl | trivial⟩
  · refine close false (by simp [ltr]; omega) ?_
    go_enter Tryd.func64, Tryd.ntmps64
    go_wp2
    go_ret
    exact ⟨by first | rfl | (simp; omega), by first | rfl | trivial⟩
  · refine close true (by simp [ltr]; omega) ?_
    go_enter Tryd.func64, Tryd.ntmps64
    go_wp2
    go_ret
    exact ⟨by first | rfl | (simp; omega), by first | rfl | trivial⟩
  · refine close false (by simp [ltr]; omega) ?_
    go_enter Tryd.func64, Tryd.ntmps64
    go_wp2
    go_ret
    exact ⟨by first | rfl | (simp; omega), by first | rfl | trivial⟩
  · refine close false (by simp [ltr]; omega) ?_
    go_enter Tryd.func64, Tryd.ntmps64
    go_wp2
    go_ret
    exact ⟨by first | rfl | (simp; omega), by first | rfl | trivial⟩
/-- may the byte stand in a word? -/
def isW (b : UInt8) : Bool := wch b.toNat
theorem wch_high {c : Int} (h : 128 ≤ c) : wch c = false := by
  simp [wch, dgt, ltr]
  omega
/-- how many bytes the word has with which a text begins -/
def wl (l : List UInt8) : Nat := (l.takeWhile isW).length
theorem wl_stop {l : List UInt8} {k : Nat} {b : UInt8} (h1 : ∀ x ∈ l.take k, isW x = true) (h2 : l[k]? = some b) (h3 : isW b = false) : wl l = k := by
  have hk : k < l.length := (List.getElem?_eq_some_iff.1 h2).1
  have e : l = l.take k ++ b :: l.drop (k + 1) := by
    have := List.getElem?_eq_some_iff.1 h2
    obtain ⟨h, hb⟩ := this
    rw [← hb, List.getElem_cons_drop, List.take_append_drop]
  unfold wl
  rw [e, List.takeWhile_append_of_pos h1, List.takeWhile_cons_of_neg (by simp [h3])]
  simp
  omega
theorem wl_all {l : List UInt8} (h1 : ∀ x ∈ l, isW x = true) : wl l = l.length := by
  unfold wl
  induction l with
  | nil => rfl
  | cons b l ih =>
    rw [List.takeWhile_cons_of_pos (h1 b (by simp)), List.length_cons, List.length_cons, ih fun x hx => h1 x (by simp [hx])]
theorem at_some {t : ByteArray} {k : Nat} (h : k < t.size) : t.data.toList[k]? = some t[k] := by
  rw [List.getElem?_eq_getElem (by simpa using h)]
  rfl
theorem wordLen_any (s : ByteArray) (w : World) : Calls Tryd.prog 48 #[.string s] w fun e w' => e = .returned (.int .i64 (wl s.data.toList)) ∧ Below w.heap.size w w' := by
  have hit : ∀ p, Below w.heap.size w (w.iter s p) := fun p => (Below.refl _ _).alloc (Nat.le_refl _) _
  have HIT := Lib.hid hit
  clear hit
  go_enter Tryd.func48, Tryd.ntmps48
  go_wp2
  go_loopw [3] (fun i wr => ∃ k : Nat, k ≤ s.size ∧ wr = w.iter s k ∧ ∀ x ∈ s.data.toList.take k, isW x = true) (fun _ wr => s.size - wr.iterPos w.heap.size)
  case atStart => exact ⟨0, Nat.zero_le _, rfl, by simp⟩
  case round =>
    obtain ⟨k, hk, rfl, hall⟩ := hrel
    have HA := Lib.hid hall
    clear hall
    by_cases hlt : k < s.size
    · have HS := Lib.hid (at_some hlt)
      by_cases ha : s[k].toNat < 128
      · have hnx := fun ty => run_next_ascii (P := Tryd.prog) w s k ty hlt ha
        by_cases hw : wch s[k].toNat = true
        · have HW : Hid (isW s[k] = true) := hw
          have hd : dgt (s[k].toNat : Int) = true ∨ (dgt (s[k].toNat : Int) = false ∧ ltr (s[k].toNat : Int) = true) ∨ (dgt (s[k].toNat : Int) = false ∧ ltr (s[k].toNat : Int) = false ∧ ((s[k].toNat : Int) == 95) = true) := by
            unfold wch at hw
            cases h1 : dgt (s[k].toNat : Int) <;> cases h2 : ltr (s[k].toNat : Int) <;> simp_all
          clear hw
          rcases hd with d1 | ⟨d1, d2⟩ | ⟨d1, d2, d3⟩
          all_goals
            go_wp2_with (first | (go_at_call 47; refine (isDigit_any _ _).mono ?_; rintro e w' ⟨rfl, hw'⟩; obtain rfl := hw'.symm) | (go_at_call 64; refine (isLetter_any _ _).mono ?_; rintro e w' ⟨rfl, hw'⟩; obtain rfl := hw'.symm))
            go_roundw
            case rel =>
              refine ⟨k + 1, by omega, rfl, fun x hx => ?_⟩
              rw [List.take_add_one, HS.out] at hx
              simp only [List.mem_append, Option.toList_some, List.mem_singleton] at hx
              rcases hx with hx | rfl
              · exact HA.out x hx
              · exact HW.out
            case measure => simp; omega
        · have HW : Hid (isW s[k] = false) := by show _ = _; unfold isW; simpa using hw
          have d1 : dgt (s[k].toNat : Int) = false := by unfold wch at hw; cases h1 : dgt (s[k].toNat : Int) <;> simp_all
          have d2 : ltr (s[k].toNat : Int) = false := by unfold wch at hw; cases h1 : ltr (s[k].toNat : Int) <;> simp_all
          have d3 : ((s[k].toNat : Int) == 95) = false := by unfold wch at hw; cases h1 : ((s[k].toNat : Int) == 95) <;> simp_all
          clear hw
          go_wp2_with (first | (go_at_call 47; refine (isDigit_any _ _).mono ?_; rintro e w' ⟨rfl, hw'⟩; obtain rfl := hw'.symm) | (go_at_call 64; refine (isLetter_any _ _).mono ?_; rintro e w' ⟨rfl, hw'⟩; obtain rfl := hw'.symm))
          go_ret
          exact ⟨by rw [wl_stop HA.out HS.out HW.out]; rfl, HIT.out _⟩
      · have hnx := fun ty => run_next_any (P := Tryd.prog) w s k ty hlt
        have hh := (decode_high s k hlt (by omega)).1
        obtain ⟨c, hc⟩ : ∃ c, c = (Utf8.decode s k).1 := ⟨_, rfl⟩
        obtain ⟨n, hn⟩ : ∃ n, n = (Utf8.decode s k).2 := ⟨_, rfl⟩
        rw [← hc] at hh
        have hnx' : ∀ ty, (Instr.next (.pointer (some ⟨w.heap.size, 0, none⟩)) true ty).run Tryd.prog (w.iter s k) = .ok (.tuple #[.bool true, .int .i64 k, .int .i32 c]) (w.iter s (k + n)) := by
          intro ty
          rw [hc, hn]
          exact hnx ty
        have HW : Hid (isW s[k] = false) := wch_high (by omega)
        have d1 : dgt (c : Int) = false := by simp [dgt]; omega
        have d2 : ltr (c : Int) = false := by simp [ltr]; omega
        have d3 : ((c : Int) == 95) = false := by simp; omega
        clear hnx hc hn
        go_wp2_with (first | (go_at_call 47; refine (isDigit_any _ _).mono ?_; rintro e w' ⟨rfl, hw'⟩; obtain rfl := hw'.symm) | (go_at_call 64; refine (isLetter_any _ _).mono ?_; rintro e w' ⟨rfl, hw'⟩; obtain rfl := hw'.symm))
        go_ret
        exact ⟨by rw [wl_stop HA.out HS.out HW.out]; rfl, HIT.out _⟩
    · have hkk : k = s.size := by omega
      subst hkk
      have hnx := fun ty => run_next_end (P := Tryd.prog) w s s.size ty (by omega)
      go_wp2
      go_ret
      refine ⟨?_, HIT.out _⟩
      have hl : s.data.toList.length = s.size := by simp
      rw [wl_all (fun x hx => HA.out x (by rw [List.take_of_length_le (by omega)]; exact hx)), hl]
      rfl
end Go.Proofs.YtdafnkfnaknoiaaDoor
