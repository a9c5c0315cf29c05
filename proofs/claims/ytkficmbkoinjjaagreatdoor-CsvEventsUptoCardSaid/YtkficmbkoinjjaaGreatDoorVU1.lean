/- Contract of value.unquote. -/
import Derived.WalkKit
import Derived.WalkSpells
import Derived.WalkLawsBesides
import Derived.Lib.Hide
import Derived.Lib.ConvBytes
import Derived.LoopN
import Derived.LoopTactic
import Derived.OwnWalk
import Derived.Laws.IdiomStrings
import Derived.Deep.AppendLies
import Derived.Test.YtkficmbkoinjjaaGreatDoorVF1
namespace Go.Proofs.YtkficmbkoinjjaaGreatDoor.V
open Go Go.RowKit
set_option maxHeartbeats 400000
set_option linter.unusedVariables false
set_option linter.unusedSimpArgs false
def escLB (m : List UInt8) : List UInt8 := m.flatMap escB
theorem bytesOf_append (a b : List Int) : bytesOf (a ++ b) = bytesOf a ++ bytesOf b := by simp [bytesOf]
theorem bytesOf_escL (m : List UInt8) : bytesOf (escL m) = escLB m := by
  induction m with
  | nil => rfl
  | cons b m ih =>
    have e : escL (b :: m) = escI b.toNat ++ escL m := rfl
    rw [e, bytesOf_append, ih]
    rfl
theorem quoteL_eq (m : List UInt8) : quoteL m = 34 :: (escLB m ++ [34]) := by
  show bytesOf (34 :: (escL m ++ [34])) = _
  have e : (34 :: (escL m ++ [34]) : List Int) = [34] ++ (escL m ++ [34]) := rfl
  rw [e, bytesOf_append, bytesOf_append, bytesOf_escL]
  rfl
def UnqPost (l : List UInt8) (w : World) (e : Ending) (w' : World) : Prop :=
  ∃ (r : List UInt8) (ok : Bool), e = .returned (.tuple #[.string ⟨r.toArray⟩, .bool ok]) ∧ Below w.heap.size w w' ∧ ∀ m, l = quoteL m → ok = true ∧ r = m
theorem unq_short (s : ByteArray) (h : s.size < 2) (w : World) : Calls Tryz.prog 98 #[.string s] w (UnqPost s.data.toList w) := by
  have hl : Hid (s.data.toList.length = s.size) := by show _ = _; simp
  go_enter Tryz.func98, Tryz.ntmps98
  go_wp2
  go_ret2
  refine ⟨[], false, rfl, Below.refl _ _, fun m hm => ?_⟩
  have := hl.out
  rw [hm, quoteL_len] at this
  omega
theorem unq_head (s : ByteArray) (h : 2 ≤ s.size) (b0 : (((s[0].toNat : Nat) : Int) != 34) = true) (w : World) : Calls Tryz.prog 98 #[.string s] w (UnqPost s.data.toList w) := by
  have hh : Hid (∀ m, s.data.toList = quoteL m → s[0] = 34) := by
    intro m hm
    have e : s.data.toList[0]? = some s[0] := List.getElem?_eq_getElem (by simp; omega)
    rw [hm, quoteL_eq] at e
    simpa using e.symm
  have d2 : decide ((s.size : Int) < 2) = false := by simp; omega
  go_enter Tryz.func98, Tryz.ntmps98
  go_wp2
  go_ret2
  refine ⟨[], false, rfl, Below.refl _ _, fun m hm => ?_⟩
  rw [hh.out m hm] at b0
  exact absurd b0 (by decide)
theorem quote_last {s : ByteArray} {m : List UInt8} (hm : s.data.toList = quoteL m) (g1 : s.size - 1 < s.size) : s[s.size - 1]'g1 = 34 := by
  have e : s.data.toList[s.size - 1]? = some (s[s.size - 1]'g1) := List.getElem?_eq_getElem (by simp; omega)
  have hl : (quoteL m).length = s.size := by rw [← hm]; simp
  have e2 : s.data.toList[s.size - 1]? = some 34 := by
    rw [hm]
    have : s.size - 1 = (34 :: escLB m).length := by
      rw [quoteL_eq] at hl
      simp at hl
      simp
      omega
    rw [this, quoteL_eq]
    simp
  rw [e] at e2
  exact Option.some.inj e2
set_option maxRecDepth 100000 in
theorem unq_last (s : ByteArray) (h : 2 ≤ s.size) (hs : s.size ≤ 1026) (g0 : 0 < s.size) (g1 : s.size - 1 < s.size) (b0 : ((((s[0]'g0).toNat : Nat) : Int) != 34) = false) (b1 : ((((s[s.size - 1]'g1).toNat : Nat) : Int) != 34) = true) (w : World) : Calls Tryz.prog 98 #[.string s] w (UnqPost s.data.toList w) := by
  have hh : Hid (∀ m, s.data.toList = quoteL m → (s[s.size - 1]'g1) = 34) := fun m hm => quote_last hm g1
  have d2 : decide ((s.size : Int) < 2) = false := by simp; omega
  go_enter Tryz.func98, Tryz.ntmps98
  go_wp2
  go_ret2
  refine ⟨[], false, rfl, Below.refl _ _, fun m hm => ?_⟩
  rw [hh.out m hm] at b1
  exact absurd b1 (by decide)
def strSize : Value → Nat | .string t => t.size | _ => 0
/-- what holds at the head of each round: t is what is left, bs what was read -/
def UnqRel (s : ByteArray) (B : Nat) (w : World) (u0 v : Value) (wr : World) : Prop :=
  ∃ (t : ByteArray) (bs : List UInt8), u0 = .string t ∧ wr.ownsRow B 5 1 v bs.length (Lib.byteCells bs) ∧ Below B w wr ∧ t.size + bs.length ≤ 1026 ∧ ∀ m, s.data.toList = quoteL m → ∃ m2, m = bs ++ m2 ∧ t.data.toList = escLB m2
theorem quote_inner {s : ByteArray} {m : List UInt8} (hm : s.data.toList = quoteL m) : (s.extract 1 (s.size - 1)).data.toList = escLB m := by
  have hl : (quoteL m).length = s.size := by rw [← hm]; simp
  have hl2 : s.size - 1 - 1 = (escLB m).length := by
    rw [quoteL_eq] at hl
    simp at hl
    omega
  rw [ByteArray.data_extract]
  simp only [Array.toList_extract, List.extract_eq_take_drop]
  rw [hm, quoteL_eq, hl2]
  simp
theorem escB_pos (b : UInt8) : 0 < (escB b).length := by
  have h := escB_case b
  unfold EscCase at h
  split at h
  · rename_i hx; rw [hx]; simp
  · rename_i hx; rw [hx]; simp
  · rename_i hx; rw [hx]; simp
  · exact absurd h (by simp)
theorem esc_left {t : List UInt8} {m2 : List UInt8} (h : t = escLB m2) (hp : 0 < t.length) : ∃ b m3, m2 = b :: m3 ∧ t = escB b ++ escLB m3 := by
  match m2, h with
  | [], h => subst h; simp [escLB] at hp
  | b :: m3, h => exact ⟨b, m3, rfl, h⟩
theorem own_below {w w2 : World} {B : Nat} {v : Value} {n : Nat} {xs : List Value} (h : w.ownsRow B 5 1 v n xs) (hb : Below w.heap.size w w2) : w2.ownsRow B 5 1 v n xs := by
  have hg : w.grownBy w2 none := ⟨hb.os, hb.tape, hb.output, hb.size, fun i hi _ => hb.block i hi⟩
  refine h.kept hg ?_
  cases v.ownBlock with
  | none => exact .inl rfl
  | some k => exact .inr (by simp)
theorem extract_tail {t : ByteArray} {a b : List UInt8} (h : t.data.toList = a ++ b) {n : Nat} (hn : n = a.length) : (t.extract n t.size).data.toList = b := by
  have hl : t.data.toList.length = t.size := by simp
  rw [h, List.length_append] at hl
  rw [ByteArray.data_extract]
  simp only [Array.toList_extract, List.extract_eq_take_drop]
  rw [h, hn, List.drop_left, List.take_of_length_le (by omega)]
theorem conv_nil (w : World) : (convert 87 9 (.slice none 0 0)).run Tryz.prog w = .ok (.string ⟨#[]⟩) w := by
  rw [run_convert_bytes_string w 87 9 5 none 0 0 Tryz.underlying87 Tryz.underlying5 Tryz.underlying9]
  rfl
set_option maxRecDepth 100000 in
theorem unq_loop (s : ByteArray) (h : 2 ≤ s.size) (hs : s.size ≤ 1026) (g0 : 0 < s.size) (g1 : s.size - 1 < s.size) (b0 : ((((s[0]'g0).toNat : Nat) : Int) != 34) = false) (b1 : ((((s[s.size - 1]'g1).toNat : Nat) : Int) != 34) = false) (w : World) (hv : ErrVars w) : Calls Tryz.prog 98 #[.string s] w (UnqPost s.data.toList w) := by
  obtain ⟨i0, hi, hz0, hz1, hz2⟩ := info_parts infoByte
  have hb4 : i0.bytes * (s.size - 2) ≤ 281474976710656 := by rw [hz2]; omega
  have hb5 : s.size - 2 ≤ maxLen := by unfold maxLen; omega
  have d2 : decide ((s.size : Int) < 2) = false := by simp; omega
  have HV := Lib.hid hv
  clear hv
  go_enter Tryz.func98, Tryz.ntmps98
  go_wp2_with (at_make; refine wpList_make_own _ rfl _ _ 87 rfl w.heap.size 5 i0 (.int .u8 0) 1 Tryz.underlying87 hi hz0 hz1 _ _ _ (s.size - 2) rfl rfl (by first | omega | (simp; omega)) hb4 hb5 (Nat.le_refl _) ?_; intro w0 hown0 hgrow0; refine Hid.out ?_)
  refine Lib.hid ?_
  have hnx0 : Below w.heap.size w w0 := (Below.refl _ _).grown hgrow0 (Nat.le_refl _) (fun k hk => by cases hk)
  clear hb4 hb5
  go_wp2
  go_loopw [0, 4] (fun u0 v wr => UnqRel s w.heap.size w u0 v wr) (fun u0 _ _ => strSize u0)
  case atStart =>
    refine ⟨_, [], rfl, by simpa [Lib.byteCells] using hown0, hnx0, by simp; omega, fun m hm => ⟨m, rfl, quote_inner hm⟩⟩
  case round =>
    obtain ⟨t, bs, rfl, hown, hnx, hsz, hm⟩ := hrel
    have HM := Lib.hid hm
    have hwz := hnx.size
    have htl : Hid (t.data.toList.length = t.size) := by show _ = _; simp
    clear hm
    by_cases ht : 0 < t.size
    · have hne : (t.toList == []) = false := by
        cases hc : t.toList == []
        · rfl
        · have := beq_iff_eq.1 hc
          rw [ByteArray.toList_eq] at this
          have h2 := htl.out
          rw [this] at h2
          simp at h2
          omega
      go_wp2_with fail
      refine (fb_any t ht _ (HV.out.below hnx)).mono ?_
      rintro e w2 ⟨c, n, rfl, hb2, hn, hx⟩
      have HX := Lib.hid hx
      clear hx
      have hn' : n ≤ t.size := by rw [htl.out] at hn; exact hn
      clear hn
      by_cases hn0 : n = 0
      · have HN := Lib.hid hn0
        have b3 : ((n : Int) == 0) = true := by simp [hn0]
        clear hn0
        go_wp2
        go_ret2
        refine ⟨[], false, rfl, hnx.trans (hb2.mono hwz), fun m hm => ?_⟩
        obtain ⟨m2, _, he⟩ := HM.out m hm
        obtain ⟨b, m3, _, he3⟩ := esc_left he (by rw [htl.out]; exact ht)
        have h1 := (HX.out b _ he3).2
        have h2 := escB_pos b
        have h3 := HN.out
        omega
      · have b3 : ((n : Int) == 0) = false := by simp; omega
        have hm1 : bs.length + 1 ≤ maxLen := by unfold maxLen; omega
        have hz2' := hb2.size
        have hown' : w2.ownsRow w.heap.size 5 1 u4 bs.length (Lib.byteCells bs) := own_below hown hb2
        go_wp2_with (at_builtin; refine wpList_append_own _ rfl _ _ 87 rfl w.heap.size 5 i0 (.int .u8 0) 1 1 Tryz.underlying87 hi hz0 hz1 hz2 rfl (by decide) _ _ _ rfl (hown'.alloc _) ⟨w2.heap.size, 0, none⟩ 1 1 (u8s [(c.toNat : Int)]) rfl rfl (lit_cells _ _ _) (u8s_one _) hm1 (by omega) (by simp; omega) ?_; intro v3 w3 hown3 hgrow3 _; refine Hid.out ?_)
        refine Lib.hid ?_
        have hnx3 : Below w.heap.size w w3 := ((hnx.trans (hb2.mono hwz)).alloc (by omega) _).grown hgrow3 (by simp; omega) (fun k hk => (hown'.lt k hk).1)
        have hn'' : (n : Int) ≤ (t.size : Int) := by omega
        go_wp2
        go_roundw
        case rel =>
          refine ⟨_, bs ++ [c], rfl, by simpa [Lib.byteCells, u8s] using hown3, hnx3, ?_, fun m hm => ?_⟩
          · simp
            omega
          · obtain ⟨m2, h1, he⟩ := HM.out m hm
            obtain ⟨b, m3, h2, he3⟩ := esc_left he (by rw [htl.out]; exact ht)
            obtain ⟨hc, hnn⟩ := HX.out b _ he3
            refine ⟨m3, by rw [h1, h2, hc]; simp, ?_⟩
            exact extract_tail he3 hnn
        case measure => simp [strSize]; omega
    · have hte : t.data.toList = [] := by
        have h2 := htl.out
        exact List.eq_nil_of_length_eq_zero (by omega)
      have hne : (t.toList == []) = true := by rw [ByteArray.toList_eq, hte]; rfl
      have HT := Lib.hid hte
      have hend : Hid (∀ m, s.data.toList = quoteL m → true = true ∧ bs = m) := by
        intro m hm
        obtain ⟨m2, h1, he⟩ := HM.out m hm
        refine ⟨rfl, ?_⟩
        have h0 : m2 = [] := by
          match m2, he with
          | [], _ => rfl
          | b :: m3, he =>
            rw [HT.out] at he
            have h2 := escB_pos b
            have h3 := congrArg List.length he
            simp [escLB] at h3
            omega
        rw [h1, h0, List.append_nil]
      clear hte
      rcases hown.2 with ⟨rfl, h0⟩ | ⟨g, cap, cur, rfl, -, -, -, -, -, -⟩
      · have hcv := conv_nil wr
        have hb0 : bs = [] := List.eq_nil_of_length_eq_zero h0
        subst hb0
        go_wp2
        go_ret2
        exact ⟨[], true, rfl, hnx, fun m hm => ⟨rfl, (hend.out m hm).2⟩⟩
      · have hcv := run_convert_bytes_back (P := Tryz.prog) wr 87 9 5 ⟨g, 0, none⟩ cap bs Tryz.underlying87 Tryz.underlying5 Tryz.underlying9 (fun j hj => hown.cells (g := g) rfl j _ (by simp [Lib.byteCells, hj]))
        go_wp2
        go_ret2
        exact ⟨bs, true, rfl, hnx, fun m hm => ⟨rfl, (hend.out m hm).2⟩⟩
theorem unquote_any (s : ByteArray) (hs : s.size ≤ 1026) (w : World) (hv : ErrVars w) : Calls Tryz.prog 98 #[.string s] w (UnqPost s.data.toList w) := by
  by_cases h : 2 ≤ s.size
  · have g0 : 0 < s.size := by omega
    have g1 : s.size - 1 < s.size := by omega
    cases b0 : (((s[0]'g0).toNat : Nat) : Int) != 34
    · cases b1 : (((s[s.size - 1]'g1).toNat : Nat) : Int) != 34
      · exact unq_loop s h hs g0 g1 b0 b1 w hv
      · exact unq_last s h hs g0 g1 b0 b1 w
    · exact unq_head s h b0 w
  · exact unq_short s (by omega) w
end Go.Proofs.YtkficmbkoinjjaaGreatDoor.V
