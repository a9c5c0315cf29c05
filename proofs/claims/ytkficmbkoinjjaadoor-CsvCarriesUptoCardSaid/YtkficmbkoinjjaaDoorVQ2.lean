/- Contract of value.quote. -/
import Derived.Test.YtkficmbkoinjjaaDoorVQ1
import Derived.WalkKit
import Derived.WalkSpells
import Derived.WalkLawsBesides
import Derived.Lib.Hide
import Derived.Lib.AppendStr
import Derived.Lib.UnsafeStr
import Derived.BigQuiet
import Derived.LoopN
import Derived.LoopTactic
import Derived.OwnWalk
import Derived.Laws.IdiomStrings
import Derived.Deep.AppendLies
namespace Go.Proofs.YtkficmbkoinjjaaDoor.V
open Go Go.RowKit
set_option maxHeartbeats 400000
set_option linter.unusedVariables false
set_option linter.unusedSimpArgs false
def escL (l : List UInt8) : List Int := l.flatMap fun b => escI b.toNat
theorem escI_len (c : Int) : (escI c).length ≤ 4 := by
  unfold escI
  split
  · simp
  · split
    · simp
    · split
      · simp
      · split <;> simp
theorem escL_len (l : List UInt8) : (escL l).length ≤ 4 * l.length := by
  induction l with
  | nil => simp [escL]
  | cons a l ih =>
    have := escI_len a.toNat
    have e : escL (a :: l) = escI a.toNat ++ escL l := rfl
    rw [e, List.length_append, List.length_cons]
    omega
theorem escL_snoc (l : List UInt8) (b : UInt8) : escL (l ++ [b]) = escL l ++ escI b.toNat := by simp [escL]
theorem take_snoc (s : ByteArray) (k : Nat) (h : k < s.size) : s.data.toList.take (k + 1) = s.data.toList.take k ++ [s[k]] := by
  rw [List.take_succ_eq_append_getElem (by simpa using h)]; rfl
def bytesOf (l : List Int) : List UInt8 := l.map fun x => UInt8.ofNat x.toNat
def InByte (l : List Int) : Prop := ∀ x ∈ l, 0 ≤ x ∧ x < 256
theorem u8s_bytes {l : List Int} (h : InByte l) : u8s l = Lib.byteCells (bytesOf l) := by
  induction l with
  | nil => rfl
  | cons a l ih =>
    have ha := h a (by simp)
    have e := ih (fun x hx => h x (by simp [hx]))
    have ea : ((UInt8.ofNat a.toNat).toNat : Int) = a := by
      have : a.toNat % 256 = a.toNat := Nat.mod_eq_of_lt (by omega)
      simp [UInt8.toNat_ofNat']
      omega
    show Value.int .u8 a :: u8s l = Value.int .u8 _ :: Lib.byteCells (bytesOf l)
    rw [e, ea]
theorem escI_in (c : Int) (h0 : 0 ≤ c) (h1 : c < 256) : InByte (escI c) := by
  have hd : ∀ n : Int, 0 ≤ n → n < 16 → 0 ≤ hexd n ∧ hexd n < 256 := by intro n a b; unfold hexd; split <;> omega
  have h3 := hd (c / 16) (by omega) (by omega)
  have h4 := hd (c % 16) (by omega) (by omega)
  intro x hx
  unfold escI at hx
  split at hx
  · simp at hx; omega
  · split at hx
    · simp at hx; omega
    · split at hx
      · simp at hx; omega
      · split at hx
        · simp at hx; rcases hx with rfl | rfl | rfl | rfl <;> omega
        · simp at hx; omega
theorem escL_in (l : List UInt8) : InByte (escL l) := by
  intro x hx
  unfold escL at hx
  rw [List.mem_flatMap] at hx
  obtain ⟨b, _, hb⟩ := hx
  exact escI_in _ (by omega) (by have := b.toNat_lt; omega) x hb
/-- the text of a string: the quotes and its bytes -/
def quoteL (l : List UInt8) : List UInt8 := bytesOf (34 :: (escL l ++ [34]))
theorem quote_in (l : List UInt8) : InByte (34 :: (escL l ++ [34])) := by
  intro x hx
  simp only [List.mem_cons, List.mem_append, List.not_mem_nil, or_false] at hx
  rcases hx with rfl | hx | rfl
  · omega
  · exact escL_in l x hx
  · omega
theorem quoteL_len (l : List UInt8) : (quoteL l).length = (escL l).length + 2 := by simp [quoteL, bytesOf]
theorem quote_any (s : ByteArray) (hs : s.size ≤ 256) (w : World) : Calls Tryd.prog 64 #[.string s] w fun e w' => e = .returned (.string ⟨(quoteL s.data.toList).toArray⟩) ∧ Below w.heap.size w w' := by
  obtain ⟨i0, hi, hz0, hz1, hz2⟩ := info_parts infoByte
  have hm1 : 0 + 1 ≤ maxLen := by unfold maxLen; omega
  have hb4 : i0.bytes * (s.size + 2) ≤ 281474976710656 := by rw [hz2]; omega
  have hb5 : s.size + 2 ≤ maxLen := by unfold maxLen; omega
  go_enter Tryd.func64, Tryd.ntmps64
  go_wp2_with (at_make; refine wpList_make_own _ rfl _ _ 57 rfl w.heap.size 5 i0 (.int .u8 0) 1 Tryd.underlying57 hi hz0 hz1 _ _ _ (s.size + 2) rfl rfl (by omega) hb4 hb5 (Nat.le_refl _) ?_; intro w0 hown0 hgrow0; refine Hid.out ?_)
  refine Lib.hid ?_
  have hnx0 : Below w.heap.size w w0 := (Below.refl _ _).grown hgrow0 (Nat.le_refl _) (fun k hk => by cases hk)
  have hz0' := hnx0.size
  clear hb4 hb5
  go_wp2_with (at_builtin; refine wpList_append_own _ rfl _ _ 57 rfl w.heap.size 5 i0 (.int .u8 0) 1 1 Tryd.underlying57 hi hz0 hz1 hz2 rfl (by decide) _ _ _ rfl (hown0.alloc _) ⟨w0.heap.size, 0, none⟩ 1 1 (u8s [34]) rfl rfl (lit_cells _ _ _) (u8s_one _) hm1 (by omega) (by simp; omega) ?_; intro v1 w1 hown1 hgrow1 _; refine Hid.out ?_)
  refine Lib.hid ?_
  have hnx1 : Below w.heap.size w w1 := (hnx0.alloc hz0' _).grown hgrow1 (by simp; omega) (fun k hk => (hown0.lt k hk).1)
  simp only [Nat.zero_add, List.nil_append] at hown1
  clear hown0 hgrow0 hgrow1 hm1
  go_wp2
  go_loopw [3, 14] (fun v i wr => ∃ k : Nat, k ≤ s.size ∧ i = .int .i64 k ∧ wr.ownsRow w.heap.size 5 1 v (1 + (escL (s.data.toList.take k)).length) (u8s (34 :: escL (s.data.toList.take k))) ∧ Below w.heap.size w wr) (fun _ i _ => s.size - (intOf i).toNat)
  case atStart => exact ⟨0, Nat.zero_le _, rfl, by simpa [escL] using hown1, hnx1⟩
  case round =>
    obtain ⟨k, hk, rfl, hown, hnx⟩ := hrel
    have hwz := hnx.size
    have hel := escL_len (s.data.toList.take k)
    have htl : (s.data.toList.take k).length ≤ k := List.length_take_le _ _
    by_cases hlt : k < s.size
    · have hc0 : (0 : Int) ≤ (s[k].toNat : Int) := by omega
      have hc1 : (s[k].toNat : Int) < 256 := by have := s[k].toNat_lt; omega
      have HS : Hid (escL (s.data.toList.take (k + 1)) = escL (s.data.toList.take k) ++ escI s[k].toNat) := by show _ = _; rw [take_snoc s k hlt, escL_snoc]
      go_wp2_with (go_at_call 78; refine (appendByte_any _ hc0 hc1 w.heap.size _ _ _ _ hwz hown (by omega)).mono ?_; rintro e w2 ⟨v2, rfl, hown2, hb2⟩)
      go_roundw
      case rel => exact ⟨k + 1, by omega, by go_num, by rw [HS.out, List.length_append, ← Nat.add_assoc]; simpa [u8s] using hown2, hnx.trans hb2⟩
      case measure => simp [intOf]; omega
    · have hkk : k = s.size := by omega
      have ht : s.data.toList.take k = s.data.toList := List.take_of_length_le (by simp; omega)
      rw [ht] at hown hel
      have hlen : s.data.toList.length = s.size := by simp
      clear ht htl
      have hm1 : 1 + (escL s.data.toList).length + 1 ≤ maxLen := by unfold maxLen; omega
      have HK := Lib.hid hkk
      clear hkk
      go_wp2_with (at_builtin; refine wpList_append_own _ rfl _ _ 57 rfl w.heap.size 5 i0 (.int .u8 0) 1 1 Tryd.underlying57 hi hz0 hz1 hz2 rfl (by decide) _ _ _ rfl (hown.alloc _) ⟨wr.heap.size, 0, none⟩ 1 1 (u8s [34]) rfl rfl (lit_cells _ _ _) (u8s_one _) hm1 (by omega) (by simp; omega) ?_; intro v2 w2 hown2 hgrow2 _; refine Hid.out ?_)
      refine Lib.hid ?_
      have hnx2 : Below w.heap.size w w2 := (hnx.alloc hwz _).grown hgrow2 (by simp; omega) (fun k hk => (hown.lt k hk).1)
      have eL : u8s (34 :: escL s.data.toList) ++ u8s [34] = Lib.byteCells (quoteL s.data.toList) := by
        rw [show quoteL s.data.toList = bytesOf (34 :: (escL s.data.toList ++ [34])) from rfl, ← u8s_bytes (quote_in _)]
        simp [u8s]
      have eN : 1 + (escL s.data.toList).length + 1 = (quoteL s.data.toList).length := by rw [quoteL_len]; omega
      rw [eL, eN] at hown2
      have hpos : 0 < (quoteL s.data.toList).length := by rw [quoteL_len]; omega
      obtain ⟨l, hl⟩ : ∃ l, l = quoteL s.data.toList := ⟨_, rfl⟩
      rw [← hl] at hown2 hpos
      have HL := Lib.hid hl
      clear hl eL eN hown hm1 hel hlen
      obtain ⟨g, cap, rfl, -, -⟩ := hown2.form hpos
      have hcv := run_convert_bytes_back (P := Tryd.prog) w2 57 9 5 ⟨g, 0, none⟩ cap l Tryd.underlying57 Tryd.underlying5 Tryd.underlying9 (fun j hj => hown2.cells (g := g) rfl j _ (by simp [Lib.byteCells, hj]))
      go_wp2
      go_ret
      have hl := HL.out
      subst hl
      exact ⟨rfl, hnx2⟩
end Go.Proofs.YtkficmbkoinjjaaDoor.V
