/- Contract of value.appendByte. -/
import Derived.WalkKit
import Derived.WalkSpells
import Derived.WalkLawsBesides
import Derived.Lib.Hide
import Derived.Lib.AppendStr
import Derived.Lib.UnsafeStr
import Derived.BigQuiet
import Derived.LoopN
import Derived.OwnWalk
import Derived.StillTailTactics
import Derived.Deep.QuietTactic
import Derived.Deep.RegionWith
import Derived.Deep.AppendLies
import Derived.Deep.RegionLaw
import Derived.LoopTactic
import Derived.Laws.IdiomStrings
import Derived.Test.YtkficmbkoinjjaaGreatDoorVB1
namespace Go.Proofs.YtkficmbkoinjjaaGreatDoor.V
open Go Go.RowKit
set_option maxHeartbeats 400000
set_option linter.unusedVariables false
set_option linter.unusedSimpArgs false
theorem infoByte : (Tryz.prog.info? 5).map (fun i => (i.zero, i.size, i.bytes)) = some (some (.int .u8 0), 1, 1) := by kernel_rfl
def hexd (n : Int) : Int := if n < 10 then 48 + n else 87 + n
/-- the bytes with which a string's byte is written -/
def escI (c : Int) : List Int := if c = 34 ∨ c = 92 then [92, c] else if c = 10 then [92, 110] else if c = 9 then [92, 116] else if c < 32 ∨ 126 < c then [92, 120, hexd (c / 16), hexd (c % 16)] else [c]
def u8s (l : List Int) : List Value := l.map (Value.int .u8)
def Appended (B : Nat) (w : World) (n : Nat) (xs : List Value) (l : List Int) (e : Ending) (w' : World) : Prop :=
  ∃ v', e = .returned v' ∧ w'.ownsRow B 5 1 v' (n + l.length) (xs ++ u8s l) ∧ Below B w w'
theorem lit_cells (w : World) (l : List Value) (t : TypeId) : ∀ j u, l[j]? = some u → (w.alloc (.cells l.toArray t)).cell? ((⟨w.heap.size, 0, none⟩ : Addr).add j) = some u := by
  intro j u h
  have hb : (w.alloc (.cells l.toArray t)).heap[w.heap.size]? = some (.cells l.toArray t (0, 0)) := heap_alloc_new w _
  have e : ((⟨w.heap.size, 0, none⟩ : Addr).add j) = ⟨w.heap.size, j, none⟩ := by unfold Addr.add; split <;> simp_all
  rw [e, cell_of_row _ _ j _ _ _ hb]
  simpa using h
theorem u8s_one (l : List Int) : ∀ u ∈ u8s l, u.oneCell' = true := by
  intro u hu
  unfold u8s at hu
  simp only [List.mem_map] at hu
  obtain ⟨x, _, rfl⟩ := hu
  rfl
theorem appendByte_a (c : Int) (h : c = 34 ∨ c = 92) (B : Nat) (v : Value) (n : Nat) (xs : List Value) (w : World) (hB : B ≤ w.heap.size) (hown : w.ownsRow B 5 1 v n xs) (hn : n ≤ 2000) :
    Calls Tryz.prog 101 #[v, .int .u8 c] w (Appended B w n xs (escI c)) := by
  obtain ⟨i0, hi, hz0, hz1, hz2⟩ := info_parts infoByte
  have He : Hid (escI c = [92, c]) := by show _ = _; unfold escI; rw [if_pos h]
  have hm : n + 2 ≤ maxLen := by unfold maxLen; omega
  have hm2 : (n + 2) * 1 ≤ 140737488355328 := by omega
  rcases h with rfl | rfl
  all_goals
    go_enter Tryz.func101, Tryz.ntmps101
    go_wp2_with (at_builtin; refine wpList_append_own _ rfl _ _ 87 rfl B 5 i0 (.int .u8 0) 1 1 Tryz.underlying87 hi hz0 hz1 hz2 rfl (by decide) _ _ _ rfl (hown.alloc _) ⟨w.heap.size, 0, none⟩ 2 2 (u8s [92, _]) rfl rfl (lit_cells _ _ _) (u8s_one _) hm hm2 (by simp; omega) ?_)
    intro v2 w2 hown2 hgrow _
    have hnx2 : Below B w w2 := ((Below.refl _ _).alloc hB _).grown hgrow (by simp; omega) (fun k hk => (hown.lt k hk).1)
    go_wp2
    go_ret
    exact ⟨v2, rfl, by rw [He.out]; exact hown2, hnx2⟩
theorem appendByte_b (c : Int) (h : c = 10 ∨ c = 9) (B : Nat) (v : Value) (n : Nat) (xs : List Value) (w : World) (hB : B ≤ w.heap.size) (hown : w.ownsRow B 5 1 v n xs) (hn : n ≤ 2000) :
    Calls Tryz.prog 101 #[v, .int .u8 c] w (Appended B w n xs (escI c)) := by
  obtain ⟨i0, hi, hz0, hz1, hz2⟩ := info_parts infoByte
  have hm : ∀ s : ByteArray, s.size = 2 → n + s.size ≤ maxLen := by intro s hs; unfold maxLen; omega
  have hm2 : ∀ s : ByteArray, s.size = 2 → n + s.size ≤ 140737488355328 := by intro s hs; omega
  rcases h with rfl | rfl
  · have He : Hid (escI 10 = [92, 110]) := by show _ = _; rfl
    go_enter Tryz.func101, Tryz.ntmps101
    go_wp2_with (at_builtin; refine Lib.wpList_append_own_string _ rfl _ _ 87 9 rfl B 5 i0 Tryz.underlying87 Tryz.underlying9 hi hz0 hz1 hz2 _ _ _ rfl hown ⟨#[92, 110]⟩ rfl (hm _ rfl) (hm2 _ rfl) hB ?_)
    intro v2 w2 hown2 hgrow _
    have hnx2 : Below B w w2 := (Below.refl _ _).grown hgrow hB (fun k hk => (hown.lt k hk).1)
    go_wp2
    go_ret
    exact ⟨v2, rfl, by rw [He.out]; exact hown2, hnx2⟩
  · have He : Hid (escI 9 = [92, 116]) := by show _ = _; rfl
    go_enter Tryz.func101, Tryz.ntmps101
    go_wp2_with (at_builtin; refine Lib.wpList_append_own_string _ rfl _ _ 87 9 rfl B 5 i0 Tryz.underlying87 Tryz.underlying9 hi hz0 hz1 hz2 _ _ _ rfl hown ⟨#[92, 116]⟩ rfl (hm _ rfl) (hm2 _ rfl) hB ?_)
    intro v2 w2 hown2 hgrow _
    have hnx2 : Below B w w2 := (Below.refl _ _).grown hgrow hB (fun k hk => (hown.lt k hk).1)
    go_wp2
    go_ret
    exact ⟨v2, rfl, by rw [He.out]; exact hown2, hnx2⟩
theorem appendByte_e (c : Int) (h34 : c ≠ 34) (h92 : c ≠ 92) (h32 : 32 ≤ c) (h126 : c ≤ 126) (B : Nat) (v : Value) (n : Nat) (xs : List Value) (w : World) (hB : B ≤ w.heap.size) (hown : w.ownsRow B 5 1 v n xs) (hn : n ≤ 2000) :
    Calls Tryz.prog 101 #[v, .int .u8 c] w (Appended B w n xs (escI c)) := by
  obtain ⟨i0, hi, hz0, hz1, hz2⟩ := info_parts infoByte
  have hm : n + 1 ≤ maxLen := by unfold maxLen; omega
  have hm2 : (n + 1) * 1 ≤ 140737488355328 := by omega
  have He : Hid (escI c = [c]) := by show _ = _; unfold escI; rw [if_neg (by omega), if_neg (by omega), if_neg (by omega), if_neg (by omega)]
  have b1 : (c == 34) = false := by simpa using h34
  have b2 : (c == 92) = false := by simpa using h92
  have b3 : (c == 10) = false := by simp; omega
  have b4 : (c == 9) = false := by simp; omega
  have b5 : decide (c < 32) = false := by simp; omega
  have b6 : decide (126 < c) = false := by simp; omega
  clear h34 h92
  go_enter Tryz.func101, Tryz.ntmps101
  go_wp2_with (at_builtin; refine wpList_append_own _ rfl _ _ 87 rfl B 5 i0 (.int .u8 0) 1 1 Tryz.underlying87 hi hz0 hz1 hz2 rfl (by decide) _ _ _ rfl (hown.alloc _) ⟨w.heap.size, 0, none⟩ 1 1 (u8s [c]) rfl rfl (lit_cells _ _ _) (u8s_one _) hm hm2 (by simp; omega) ?_)
  intro v2 w2 hown2 hgrow _
  have hnx2 : Below B w w2 := ((Below.refl _ _).alloc hB _).grown hgrow (by simp; omega) (fun k hk => (hown.lt k hk).1)
  go_wp2
  go_ret
  exact ⟨v2, rfl, by rw [He.out]; exact hown2, hnx2⟩
theorem and15 (c : Int) (h0 : 0 ≤ c) (h1 : c < 256) : bits .and .u8 c 15 = c % 16 := by
  have h : ∀ x : Fin 256, bits .and .u8 ((x : Nat) : Int) 15 = ((x : Nat) : Int) % 16 := by decide +kernel
  have := h ⟨c.toNat, by omega⟩
  simpa [Int.toNat_of_nonneg h0] using this
theorem shr4 (c : Int) (yk : IntKind) : Op.shift .shr .u8 c yk 4 = pure (.int .u8 (c / 16)) := by
  rw [shift_shr .u8 yk c 4 (by omega) (by decide)]; rfl
theorem hex_at (t : TypeId) (k : IntKind) (i : Int) (h0 : 0 ≤ i) (h1 : i < 16) (ht : Tryz.prog.underlying t = some .string) (w : World) :
    (Instr.index t (.string ⟨#[48, 49, 50, 51, 52, 53, 54, 55, 56, 57, 97, 98, 99, 100, 101, 102]⟩) (.int k i)).run Tryz.prog w = .ok (.int .u8 (hexd i)) w := by
  obtain ⟨n, rfl⟩ : ∃ n : Nat, i = n := ⟨i.toNat, by omega⟩
  have hn : n < 16 := by omega
  rw [run_index_string _ t _ k n ht]
  have h2 : ∀ n : Fin 16, (⟨#[48, 49, 50, 51, 52, 53, 54, 55, 56, 57, 97, 98, 99, 100, 101, 102]⟩ : ByteArray)[(n : Nat)]'(n.isLt) = UInt8.ofNat (hexd (n : Nat)).toNat ∧ (((⟨#[48, 49, 50, 51, 52, 53, 54, 55, 56, 57, 97, 98, 99, 100, 101, 102]⟩ : ByteArray)[(n : Nat)]'(n.isLt)).toNat : Int) = hexd (n : Nat) := by decide
  rw [dif_pos (show (0 : Int) ≤ (n : Int) ∧ (n : Int) < ((⟨#[48, 49, 50, 51, 52, 53, 54, 55, 56, 57, 97, 98, 99, 100, 101, 102]⟩ : ByteArray).size : Int) from ⟨by omega, by show (n : Int) < 16; omega⟩)]
  exact congrArg (fun x => Result.ok (Value.int .u8 x) w) (h2 ⟨n, hn⟩).2
attribute [local go_sem ↓] and15 shr4 hex_at
set_option maxRecDepth 100000 in
theorem appendByte_d1 (c : Int) (h0 : 0 ≤ c) (h256 : c < 256) (b1 : (c == 34) = false) (b2 : (c == 92) = false) (b3 : (c == 10) = false) (b4 : (c == 9) = false) (b5 : decide (c < 32) = true) (He : Hid (escI c = [92, 120, hexd (c / 16), hexd (c % 16)])) (B : Nat) (v : Value) (n : Nat) (xs : List Value) (w : World) (hB : B ≤ w.heap.size) (hown : w.ownsRow B 5 1 v n xs) (hn : n ≤ 2000) :
    Calls Tryz.prog 101 #[v, .int .u8 c] w (Appended B w n xs (escI c)) := by
  obtain ⟨i0, hi, hz0, hz1, hz2⟩ := info_parts infoByte
  have hm : n + 4 ≤ maxLen := by unfold maxLen; omega
  have hm2 : (n + 4) * 1 ≤ 140737488355328 := by omega
  have hB1 : ∀ o : Obj, B ≤ (w.alloc o).drew.heap.size := by intro o; simp; omega
  have q1 : 0 ≤ c / 16 := by omega
  have q2 : c / 16 < 16 := by omega
  have q3 : 0 ≤ c % 16 := by omega
  have q4 : c % 16 < 16 := by omega
  go_enter Tryz.func101, Tryz.ntmps101
  go_wp2_with fail
  first | (go_region_law (first | (refine step_append_lies _ rfl _ _ 87 rfl B 5 i0 (.int .u8 0) 1 1 Tryz.underlying87 hi hz0 hz1 hz2 rfl (by decide) v n xs rfl (hown.alloc _).drew ⟨w.heap.size, 0, none⟩ 4 4 (u8s [92, 120, hexd (c / 16), hexd (c % 16)]) rfl rfl (fun j u h => lit_cells w _ _ j u h) (u8s_one _) (by decide) hm hm2 (hB1 _) (w.heap.size + 1) (by simp) ?_; intro g cap w2 hown2 hgrow _ _))) | fail
  all_goals
    have hnx2 : Below B w w2 := (((Below.refl _ _).alloc hB _).drew).grown hgrow (hB1 _) (fun k hk => (hown.lt k hk).1)
    go_wp2
    go_ret
    exact ⟨_, rfl, by rw [He.out]; exact hown2, hnx2⟩
set_option maxRecDepth 100000 in
theorem appendByte_d2 (c : Int) (h0 : 0 ≤ c) (h256 : c < 256) (b1 : (c == 34) = false) (b2 : (c == 92) = false) (b3 : (c == 10) = false) (b4 : (c == 9) = false) (b5 : decide (c < 32) = false) (b6 : decide (126 < c) = true) (He : Hid (escI c = [92, 120, hexd (c / 16), hexd (c % 16)])) (B : Nat) (v : Value) (n : Nat) (xs : List Value) (w : World) (hB : B ≤ w.heap.size) (hown : w.ownsRow B 5 1 v n xs) (hn : n ≤ 2000) :
    Calls Tryz.prog 101 #[v, .int .u8 c] w (Appended B w n xs (escI c)) := by
  obtain ⟨i0, hi, hz0, hz1, hz2⟩ := info_parts infoByte
  have hm : n + 4 ≤ maxLen := by unfold maxLen; omega
  have hm2 : (n + 4) * 1 ≤ 140737488355328 := by omega
  have hB1 : ∀ o : Obj, B ≤ (w.alloc o).drew.heap.size := by intro o; simp; omega
  have q1 : 0 ≤ c / 16 := by omega
  have q2 : c / 16 < 16 := by omega
  have q3 : 0 ≤ c % 16 := by omega
  have q4 : c % 16 < 16 := by omega
  go_enter Tryz.func101, Tryz.ntmps101
  go_wp2_with fail
  first | (go_region_law (first | (refine step_append_lies _ rfl _ _ 87 rfl B 5 i0 (.int .u8 0) 1 1 Tryz.underlying87 hi hz0 hz1 hz2 rfl (by decide) v n xs rfl (hown.alloc _).drew ⟨w.heap.size, 0, none⟩ 4 4 (u8s [92, 120, hexd (c / 16), hexd (c % 16)]) rfl rfl (fun j u h => lit_cells w _ _ j u h) (u8s_one _) (by decide) hm hm2 (hB1 _) (w.heap.size + 1) (by simp) ?_; intro g cap w2 hown2 hgrow _ _))) | fail
  all_goals
    have hnx2 : Below B w w2 := (((Below.refl _ _).alloc hB _).drew).grown hgrow (hB1 _) (fun k hk => (hown.lt k hk).1)
    go_wp2
    go_ret
    exact ⟨_, rfl, by rw [He.out]; exact hown2, hnx2⟩
theorem appendByte_any (c : Int) (h0 : 0 ≤ c) (h256 : c < 256) (B : Nat) (v : Value) (n : Nat) (xs : List Value) (w : World) (hB : B ≤ w.heap.size) (hown : w.ownsRow B 5 1 v n xs) (hn : n ≤ 2000) :
    Calls Tryz.prog 101 #[v, .int .u8 c] w (Appended B w n xs (escI c)) := by
  by_cases h1 : c = 34 ∨ c = 92
  · exact appendByte_a c h1 B v n xs w hB hown hn
  · by_cases h2 : c = 10 ∨ c = 9
    · exact appendByte_b c h2 B v n xs w hB hown hn
    · have b1 : (c == 34) = false := by simp; omega
      have b2 : (c == 92) = false := by simp; omega
      have b3 : (c == 10) = false := by simp; omega
      have b4 : (c == 9) = false := by simp; omega
      by_cases h3 : c < 32
      · have He : Hid (escI c = [92, 120, hexd (c / 16), hexd (c % 16)]) := by show _ = _; unfold escI; rw [if_neg h1, if_neg (by omega), if_neg (by omega), if_pos (.inl h3)]
        exact appendByte_d1 c h0 h256 b1 b2 b3 b4 (by simpa using h3) He B v n xs w hB hown hn
      · by_cases h4 : 126 < c
        · have He : Hid (escI c = [92, 120, hexd (c / 16), hexd (c % 16)]) := by show _ = _; unfold escI; rw [if_neg h1, if_neg (by omega), if_neg (by omega), if_pos (.inr h4)]
          exact appendByte_d2 c h0 h256 b1 b2 b3 b4 (by simpa using h3) (by simpa using h4) He B v n xs w hB hown hn
        · exact appendByte_e c (by omega) (by omega) (by omega) (by omega) B v n xs w hB hown hn
end Go.Proofs.YtkficmbkoinjjaaGreatDoor.V
/- Contract of value.quote. -/
namespace Go.Proofs.YtkficmbkoinjjaaGreatDoor.V
open Go Go.RowKit
set_option maxHeartbeats 400000
set_option linter.unusedVariables false
set_option linter.unusedSimpArgs false
def escL (l : List UInt8) : List Int := l.flatMap fun b => escI b.toNat
theorem escI_len (c : Int) : (escI c).length ≤ 4 := by
  unfold escI
  split
  · simp
  · split
    · simp
    · split
      · simp
      · split <;> simp
theorem escL_len (l : List UInt8) : (escL l).length ≤ 4 * l.length := by
  induction l with
  | nil => simp [escL]
  | cons a l ih =>
    have := escI_len a.toNat
    have e : escL (a :: l) = escI a.toNat ++ escL l := rfl
    rw [e, List.length_append, List.length_cons]
    omega
theorem escL_snoc (l : List UInt8) (b : UInt8) : escL (l ++ [b]) = escL l ++ escI b.toNat := by simp [escL]
theorem take_snoc (s : ByteArray) (k : Nat) (h : k < s.size) : s.data.toList.take (k + 1) = s.data.toList.take k ++ [s[k]] := by
  rw [List.take_succ_eq_append_getElem (by simpa using h)]; rfl
def bytesOf (l : List Int) : List UInt8 := l.map fun x => UInt8.ofNat x.toNat
def InByte (l : List Int) : Prop := ∀ x ∈ l, 0 ≤ x ∧ x < 256
theorem u8s_bytes {l : List Int} (h : InByte l) : u8s l = Lib.byteCells (bytesOf l) := by
  induction l with
  | nil => rfl
  | cons a l ih =>
    have ha := h a (by simp)
    have e := ih (fun x hx => h x (by simp [hx]))
    have ea : ((UInt8.ofNat a.toNat).toNat : Int) = a := by
      have : a.toNat % 256 = a.toNat := Nat.mod_eq_of_lt (by omega)
      simp [UInt8.toNat_ofNat']
      omega
    show Value.int .u8 a :: u8s l = Value.int .u8 _ :: Lib.byteCells (bytesOf l)
    rw [e, ea]
theorem escI_in (c : Int) (h0 : 0 ≤ c) (h1 : c < 256) : InByte (escI c) := by
  have hd : ∀ n : Int, 0 ≤ n → n < 16 → 0 ≤ hexd n ∧ hexd n < 256 := by intro n a b; unfold hexd; split <;> omega
  have h3 := hd (c / 16) (by omega) (by omega)
  have h4 := hd (c % 16) (by omega) (by omega)
  intro x hx
  unfold escI at hx
  split at hx
  · simp at hx; omega
  · split at hx
    · simp at hx; omega
    · split at hx
      · simp at hx; omega
      · split at hx
        · simp at hx; rcases hx with rfl | rfl | rfl | rfl <;> omega
        · simp at hx; omega
theorem escL_in (l : List UInt8) : InByte (escL l) := by
  intro x hx
  unfold escL at hx
  rw [List.mem_flatMap] at hx
  obtain ⟨b, _, hb⟩ := hx
  exact escI_in _ (by omega) (by have := b.toNat_lt; omega) x hb
/-- the text of a string: the quotes and its bytes -/
def quoteL (l : List UInt8) : List UInt8 := bytesOf (34 :: (escL l ++ [34]))
theorem quote_in (l : List UInt8) : InByte (34 :: (escL l ++ [34])) := by
  intro x hx
  simp only [List.mem_cons, List.mem_append, List.not_mem_nil, or_false] at hx
  rcases hx with rfl | hx | rfl
  · omega
  · exact escL_in l x hx
  · omega
theorem quoteL_len (l : List UInt8) : (quoteL l).length = (escL l).length + 2 := by simp [quoteL, bytesOf]
theorem quote_any (s : ByteArray) (hs : s.size ≤ 256) (w : World) : Calls Tryz.prog 87 #[.string s] w fun e w' => e = .returned (.string ⟨(quoteL s.data.toList).toArray⟩) ∧ Below w.heap.size w w' := by
  obtain ⟨i0, hi, hz0, hz1, hz2⟩ := info_parts infoByte
  have hm1 : 0 + 1 ≤ maxLen := by unfold maxLen; omega
  have hb4 : i0.bytes * (s.size + 2) ≤ 281474976710656 := by rw [hz2]; omega
  have hb5 : s.size + 2 ≤ maxLen := by unfold maxLen; omega
  go_enter Tryz.func87, Tryz.ntmps87
  go_wp2_with (at_make; refine wpList_make_own _ rfl _ _ 87 rfl w.heap.size 5 i0 (.int .u8 0) 1 Tryz.underlying87 hi hz0 hz1 _ _ _ (s.size + 2) rfl rfl (by omega) hb4 hb5 (Nat.le_refl _) ?_; intro w0 hown0 hgrow0; refine Hid.out ?_)
  refine Lib.hid ?_
  have hnx0 : Below w.heap.size w w0 := (Below.refl _ _).grown hgrow0 (Nat.le_refl _) (fun k hk => by cases hk)
  have hz0' := hnx0.size
  clear hb4 hb5
  go_wp2_with (at_builtin; refine wpList_append_own _ rfl _ _ 87 rfl w.heap.size 5 i0 (.int .u8 0) 1 1 Tryz.underlying87 hi hz0 hz1 hz2 rfl (by decide) _ _ _ rfl (hown0.alloc _) ⟨w0.heap.size, 0, none⟩ 1 1 (u8s [34]) rfl rfl (lit_cells _ _ _) (u8s_one _) hm1 (by omega) (by simp; omega) ?_; intro v1 w1 hown1 hgrow1 _; refine Hid.out ?_)
  refine Lib.hid ?_
  have hnx1 : Below w.heap.size w w1 := (hnx0.alloc hz0' _).grown hgrow1 (by simp; omega) (fun k hk => (hown0.lt k hk).1)
  simp only [Nat.zero_add, List.nil_append] at hown1
  clear hown0 hgrow0 hgrow1 hm1
  go_wp2
  go_loopw [3, 14] (fun v i wr => ∃ k : Nat, k ≤ s.size ∧ i = .int .i64 k ∧ wr.ownsRow w.heap.size 5 1 v (1 + (escL (s.data.toList.take k)).length) (u8s (34 :: escL (s.data.toList.take k))) ∧ Below w.heap.size w wr) (fun _ i _ => s.size - (intOf i).toNat)
  case atStart => exact ⟨0, Nat.zero_le _, rfl, by simpa [escL] using hown1, hnx1⟩
  case round =>
    obtain ⟨k, hk, rfl, hown, hnx⟩ := hrel
    have hwz := hnx.size
    have hel := escL_len (s.data.toList.take k)
    have htl : (s.data.toList.take k).length ≤ k := List.length_take_le _ _
    by_cases hlt : k < s.size
    · have hc0 : (0 : Int) ≤ (s[k].toNat : Int) := by omega
      have hc1 : (s[k].toNat : Int) < 256 := by have := s[k].toNat_lt; omega
      have HS : Hid (escL (s.data.toList.take (k + 1)) = escL (s.data.toList.take k) ++ escI s[k].toNat) := by show _ = _; rw [take_snoc s k hlt, escL_snoc]
      go_wp2_with (go_at_call 101; refine (appendByte_any _ hc0 hc1 w.heap.size _ _ _ _ hwz hown (by omega)).mono ?_; rintro e w2 ⟨v2, rfl, hown2, hb2⟩)
      go_roundw
      case rel => exact ⟨k + 1, by omega, by go_num, by rw [HS.out, List.length_append, ← Nat.add_assoc]; simpa [u8s] using hown2, hnx.trans hb2⟩
      case measure => simp [intOf]; omega
    · have hkk : k = s.size := by omega
      have ht : s.data.toList.take k = s.data.toList := List.take_of_length_le (by simp; omega)
      rw [ht] at hown hel
      have hlen : s.data.toList.length = s.size := by simp
      clear ht htl
      have hm1 : 1 + (escL s.data.toList).length + 1 ≤ maxLen := by unfold maxLen; omega
      have HK := Lib.hid hkk
      clear hkk
      go_wp2_with (at_builtin; refine wpList_append_own _ rfl _ _ 87 rfl w.heap.size 5 i0 (.int .u8 0) 1 1 Tryz.underlying87 hi hz0 hz1 hz2 rfl (by decide) _ _ _ rfl (hown.alloc _) ⟨wr.heap.size, 0, none⟩ 1 1 (u8s [34]) rfl rfl (lit_cells _ _ _) (u8s_one _) hm1 (by omega) (by simp; omega) ?_; intro v2 w2 hown2 hgrow2 _; refine Hid.out ?_)
      refine Lib.hid ?_
      have hnx2 : Below w.heap.size w w2 := (hnx.alloc hwz _).grown hgrow2 (by simp; omega) (fun k hk => (hown.lt k hk).1)
      have eL : u8s (34 :: escL s.data.toList) ++ u8s [34] = Lib.byteCells (quoteL s.data.toList) := by
        rw [show quoteL s.data.toList = bytesOf (34 :: (escL s.data.toList ++ [34])) from rfl, ← u8s_bytes (quote_in _)]
        simp [u8s]
      have eN : 1 + (escL s.data.toList).length + 1 = (quoteL s.data.toList).length := by rw [quoteL_len]; omega
      rw [eL, eN] at hown2
      have hpos : 0 < (quoteL s.data.toList).length := by rw [quoteL_len]; omega
      obtain ⟨l, hl⟩ : ∃ l, l = quoteL s.data.toList := ⟨_, rfl⟩
      rw [← hl] at hown2 hpos
      have HL := Lib.hid hl
      clear hl eL eN hown hm1 hel hlen
      obtain ⟨g, cap, rfl, -, -⟩ := hown2.form hpos
      have hcv := run_convert_bytes_back (P := Tryz.prog) w2 87 9 5 ⟨g, 0, none⟩ cap l Tryz.underlying87 Tryz.underlying5 Tryz.underlying9 (fun j hj => hown2.cells (g := g) rfl j _ (by simp [Lib.byteCells, hj]))
      go_wp2
      go_ret
      have hl := HL.out
      subst hl
      exact ⟨rfl, hnx2⟩
end Go.Proofs.YtkficmbkoinjjaaGreatDoor.V
