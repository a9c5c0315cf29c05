/- A cell read as a value of a kind, and a value written as a cell: formOf, readCell, writeCell. -/
import Derived.Deep.RegionHeld3
import Derived.Deep.RegionLaw
import Derived.Laws.EntriesVeiled
import Derived.Test.YtkficmbkoinjjaaGreatDoorE1
namespace Go.Proofs.YtkficmbkoinjjaaGreatDoor
open Go Go.RowKit
open V
set_option maxHeartbeats 2000000
set_option linter.unusedVariables false
set_option linter.unusedSimpArgs false
abbrev fn (f : Nat) : Value := .func (.func f) #[] #[]
/-- the form of a kind -/
def rdF (k : Int) : Value := if k = 2 then fn 55 else fn 53
def wrF (k : Int) : Value := if k = 2 then fn 56 else fn 54
theorem formOf_1 (w : World) : Calls Tryz.prog 33 #[.int .i64 1] w fun e w' => e = .returned (.tuple #[.agg #[fn 53, fn 54], .bool true]) ∧ Below w.heap.size w w' := by
  go_enter Tryz.func33, Tryz.ntmps33
  go_wp2
  refine bodyPost_ret (v := .tuple #[.agg #[fn 53, fn 54], .bool true]) (by simp [results, Tryz.results33, go_sem]) rfl ?_
  refine ⟨rfl, ?_⟩
  repeat (first | exact Below.refl _ _ | apply Below.drew | refine Below.setCell ?_ (by simp) _ | refine Below.alloc ?_ (by first | exact Nat.le_refl _ | simp) _)
theorem formOf_2 (w : World) : Calls Tryz.prog 33 #[.int .i64 2] w fun e w' => e = .returned (.tuple #[.agg #[fn 55, fn 56], .bool true]) ∧ Below w.heap.size w w' := by
  go_enter Tryz.func33, Tryz.ntmps33
  go_wp2
  refine bodyPost_ret (v := .tuple #[.agg #[fn 55, fn 56], .bool true]) (by simp [results, Tryz.results33, go_sem]) rfl ?_
  refine ⟨rfl, ?_⟩
  repeat (first | exact Below.refl _ _ | apply Below.drew | refine Below.setCell ?_ (by simp) _ | refine Below.alloc ?_ (by first | exact Nat.le_refl _ | simp) _)
theorem formOf_3 (w : World) : Calls Tryz.prog 33 #[.int .i64 3] w fun e w' => e = .returned (.tuple #[.agg #[fn 53, fn 54], .bool true]) ∧ Below w.heap.size w w' := by
  go_enter Tryz.func33, Tryz.ntmps33
  go_wp2
  refine bodyPost_ret (v := .tuple #[.agg #[fn 53, fn 54], .bool true]) (by simp [results, Tryz.results33, go_sem]) rfl ?_
  refine ⟨rfl, ?_⟩
  repeat (first | exact Below.refl _ _ | apply Below.drew | refine Below.setCell ?_ (by simp) _ | refine Below.alloc ?_ (by first | exact Nat.le_refl _ | simp) _)
theorem formOf_in (k : Int) (h1 : 1 ≤ k) (h3 : k ≤ 3) (w : World) : Calls Tryz.prog 33 #[.int .i64 k] w fun e w' => e = .returned (.tuple #[.agg #[rdF k, wrF k], .bool true]) ∧ Below w.heap.size w w' := by
  have hc : k = 1 ∨ k = 2 ∨ k = 3 := by omega
  rcases hc with rfl | rfl | rfl
  · exact formOf_1 w
  · exact formOf_2 w
  · exact formOf_3 w
theorem formOf_out (k : Int) (h : k < 1 ∨ 3 < k) (w : World) : Calls Tryz.prog 33 #[.int .i64 k] w fun e w' => e = .returned (.tuple #[.agg #[.nilFunc, .nilFunc], .bool false]) ∧ Below w.heap.size w w' := by
  rcases h with h | h
  · have d1 : decide (k < 1) = true := by simpa using h
    go_enter Tryz.func33, Tryz.ntmps33
    go_wp2
    refine bodyPost_ret (v := .tuple #[.agg #[.nilFunc, .nilFunc], .bool false]) (by simp [results, Tryz.results33, go_sem]) rfl ?_
    refine ⟨rfl, ?_⟩
    repeat (first | exact Below.refl _ _ | apply Below.drew | refine Below.setCell ?_ (by simp) _ | refine Below.alloc ?_ (by first | exact Nat.le_refl _ | simp) _)
  · have d1 : decide (k < 1) = false := by simp; omega
    have d2 : decide ((3 : Int) < k) = true := by simpa using h
    go_enter Tryz.func33, Tryz.ntmps33
    go_wp2
    refine bodyPost_ret (v := .tuple #[.agg #[.nilFunc, .nilFunc], .bool false]) (by simp [results, Tryz.results33, go_sem]) rfl ?_
    refine ⟨rfl, ?_⟩
    repeat (first | exact Below.refl _ _ | apply Below.drew | refine Below.setCell ?_ (by simp) _ | refine Below.alloc ?_ (by first | exact Nat.le_refl _ | simp) _)
/-- the library's tables -/
structure Vv (w : World) : Prop where
  e : ErrVars w
  p : PowTab w
theorem Vv.below {w w' : World} (h : Vv w) (hb : Below w.heap.size w w') : Vv w' := ⟨h.e.below hb, h.p.below hb⟩
/-- what is read of a cell as a value of a kind: right, if it is of that kind and may be; else there is none -/
def RC (k : Int) (c : Cell) (K N : Int) (S : ByteArray) (T : Bool) : Prop :=
  ((K = k ∧ valid K N S T = true) → Ok4 ⟨K, N, S, T⟩ ∧ cellV ⟨K, N, S, T⟩ = c) ∧ (¬(K = k ∧ valid K N S T = true) → ∀ v, Ok4 v → v.k = k → c ≠ cellV v)
theorem rc_str (c : ByteArray) : RC 2 c.data.toList 2 0 c false := by
  refine ⟨fun h => ⟨⟨h.2, by unfold I64; simp⟩, by unfold cellV; simp⟩, fun h v hv hk he => h ⟨rfl, ?_⟩⟩
  obtain ⟨k, n, s, b⟩ := v
  simp only at hk
  subst hk
  unfold cellV at he
  rw [if_pos rfl] at he
  have e1 := valid_2' hv.1
  simp only at e1 he
  have h2 := hv.1
  simp only at h2
  rw [e1.1, e1.2, ← V.bytes_ext he] at h2
  exact h2
theorem rc_read {k : Int} (hk2 : k ≠ 2) (hk : 1 ≤ k) {c : ByteArray} {K N : Int} {S : ByteArray} {T : Bool} {E : Int} (h : (E = 0 ∧ valid K N S T = true ∧ I64 N ∧ showT K N S T = c.data.toList) ∨ (E = 12 ∧ K = 0 ∧ N = 0 ∧ S = ⟨#[]⟩ ∧ T = false ∧ ∀ k n s b, I64 n → valid k n s b = true → c.data.toList ≠ showT k n s b)) :
    RC k c.data.toList K N S T := by
  have hcv : ∀ v : V4, v.k = k → cellV v = showT v.k v.n v.s v.b := fun v hv => by unfold cellV; rw [if_neg (by rw [hv]; exact hk2)]
  rcases h with ⟨_, h1, h2, h3⟩ | ⟨_, rfl, _, _, _, h⟩
  · refine ⟨fun ⟨e, _⟩ => ⟨⟨h1, h2⟩, (hcv ⟨K, N, S, T⟩ e).trans h3⟩, fun hn v hv hvk he => hn ⟨?_, h1⟩⟩
    rw [hcv v hvk, ← h3] at he
    have := showT_inj h1 hv.1 h2 hv.2 he
    exact this.1.trans hvk
  · exact ⟨fun ⟨e, _⟩ => absurd e (by omega), fun hn v hv hvk he => h _ _ _ _ hv.2 hv.1 (he.trans (hcv v hvk))⟩
/-- a value comes back -/
def ValC (w : World) (k : Int) (c : Cell) (e : Ending) (w' : World) : Prop :=
  ∃ (K N : Int) (S : ByteArray) (T : Bool), e = .returned (.agg #[.int .i64 K, .int .i64 N, .string S, .bool T]) ∧ Below w.heap.size w w' ∧ RC k c K N S T
theorem shown_any (k : Int) (hk2 : k ≠ 2) (hk : 1 ≤ k) (c : ByteArray) (w : World) (hv : Vv w) : Calls Tryz.prog 53 #[.string c] w (ValC w k c.data.toList) := by
  have HV := Lib.hid hv
  have HK := Lib.hid (And.intro hk2 hk)
  clear hv hk2 hk
  go_enter Tryz.func53, Tryz.ntmps53
  go_wp2_with fail
  refine (read_any c _ (HV.out.below ((Below.refl _ _).alloc (Nat.le_refl _) _)).e (HV.out.below ((Below.refl _ _).alloc (Nat.le_refl _) _)).p).mono ?_
  rintro e w1 ⟨K, N, S, T, E, rfl, hb1, h⟩
  have HR := Lib.hid (rc_read HK.out.1 HK.out.2 h)
  have hB1 : Below w.heap.size w w1 := ((Below.refl _ _).alloc (Nat.le_refl _) _).trans (hb1.mono (by simp))
  obtain ⟨hc1, hf1⟩ := bcell hb1
  have hz1 : w.heap.size < w1.heap.size := by have := hb1.size; simp at this; omega
  have HB := Lib.hid hB1
  have hne : ¬ (w.heap.size = w1.heap.size) := by omega
  clear h hb1 hB1
  go_wp2
  refine bodyPost_ret (v := .agg #[.int .i64 K, .int .i64 N, .string S, .bool T]) (by simp [results, Tryz.results53, go_sem, hc1, hf1, hz1, hne]) rfl ?_
  refine ⟨K, N, S, T, rfl, ?_, HR.out⟩
  repeat (first | exact HB.out | apply Below.drew | refine Below.setCell ?_ (by simp) _ | refine Below.alloc ?_ (by first | exact Nat.le_refl _ | omega | (simp; done) | (simp; omega)) _)
theorem bytes_read (c : ByteArray) (w : World) : Calls Tryz.prog 55 #[.string c] w (ValC w 2 c.data.toList) := by
  go_enter Tryz.func55, Tryz.ntmps55
  go_wp2
  refine bodyPost_ret (v := .agg #[.int .i64 2, .int .i64 0, .string c, .bool false]) (by simp [results, Tryz.results55, go_sem]) rfl ?_
  refine ⟨_, _, _, _, rfl, ?_, rc_str c⟩
  repeat (first | exact Below.refl _ _ | apply Below.drew | refine Below.setCell ?_ (by simp) _ | refine Below.alloc ?_ (by first | exact Nat.le_refl _ | omega | (simp; done) | (simp; omega)) _)
theorem show_cell (v : V4) (h : Ok4 v) (h2 : v.k ≠ 2) (c : ByteArray) (hc : c.data.toList = cellV v) (w : World) (hv : Vv w) : Calls Tryz.prog 54 #[agg4 v] w fun e w' => e = .returned (.string c) ∧ Below w.heap.size w w' := by
  obtain ⟨k, n, s, b⟩ := v
  have hc' : c.data.toList = showT k n s b := by rw [hc]; unfold cellV; rw [if_neg h2]
  have HS := Lib.hid hc'
  have HO := Lib.hid h
  have HV := Lib.hid hv
  clear h h2 hc hc' hv
  go_enter Tryz.func54, Tryz.ntmps54
  go_wp2_with fail
  refine (show_sh k n s b HO.out.2 c HS.out _ rfl _ (HV.out.below ((Below.refl _ _).alloc (Nat.le_refl _) _)).p).mono ?_
  rintro e w1 ⟨rfl, hb1⟩
  have HB : Hid (Below w.heap.size w w1) := ((Below.refl _ _).alloc (Nat.le_refl _) _).trans (hb1.mono (by simp))
  clear hb1
  go_wp2
  go_ret
  exact ⟨rfl, HB.out⟩
theorem bytes_cell (v : V4) (w : World) : Calls Tryz.prog 56 #[agg4 v] w fun e w' => e = .returned (.string v.s) ∧ Below w.heap.size w w' := by
  obtain ⟨k, n, s, b⟩ := v
  go_enter Tryz.func56, Tryz.ntmps56
  go_wp2
  go_ret
  refine ⟨rfl, ?_⟩
  repeat (first | exact Below.refl _ _ | apply Below.drew | refine Below.setCell ?_ (by simp) _ | refine Below.alloc ?_ (by first | exact Nat.le_refl _ | omega | (simp; done) | (simp; omega)) _)
set_option maxRecDepth 100000 in
theorem writeCell_any (v : V4) (h : Ok4 v) (c : ByteArray) (hc : c.data.toList = cellV v) (w : World) (hv : Vv w) : Calls Tryz.prog 35 #[agg4 v] w fun e w' => e = .returned (.string c) ∧ Below w.heap.size w w' := by
  have hk := h.kind
  by_cases h2 : v.k = 2
  · have hcs : c = v.s := V.bytes_ext (by rw [hc]; unfold cellV; rw [if_pos h2])
    subst hcs
    have HB : Hid (∀ wx, Calls Tryz.prog 56 #[agg4 v] wx fun e w' => e = .returned (.string v.s) ∧ Below wx.heap.size wx w') := fun wx => bytes_cell v wx
    have HF : Hid (∀ wx, Calls Tryz.prog 33 #[.int .i64 v.k] wx fun e w' => e = .returned (.tuple #[.agg #[fn 55, fn 56], .bool true]) ∧ Below wx.heap.size wx w') := fun wx => by
      have := formOf_in v.k (by omega) (by omega) wx
      unfold wrF rdF at this
      rw [if_pos h2, if_pos h2] at this
      exact this
    obtain ⟨k, n, s, b⟩ := v
    simp only at HF
    clear h hc hk h2 hv
    go_enter Tryz.func35, Tryz.ntmps35
    go_wp2_with fail
    refine (HF.out _).mono ?_
    rintro e w1 ⟨rfl, hb1⟩
    have hB1 : Below w.heap.size w w1 := ((Below.refl _ _).alloc (Nat.le_refl _) _).trans (hb1.mono (by simp))
    obtain ⟨hc1, hf1⟩ := bcell hb1
    have hz1 : w.heap.size < w1.heap.size := by have := hb1.size; simp at this; omega
    have HB1 := Lib.hid hB1
    clear hb1 hB1
    go_wp2_with fail
    refine (HB.out _).mono ?_
    rintro e w2 ⟨rfl, hb2⟩
    have HB2 : Hid (Below w.heap.size w w2) := (HB1.out.alloc (by omega) _).trans (hb2.mono (by simp; omega))
    clear hb2 hc1 hf1
    go_wp2
    go_ret
    exact ⟨rfl, HB2.out⟩
  · have HB : Hid (∀ wx, Below w.heap.size w wx → Calls Tryz.prog 54 #[agg4 v] wx fun e w' => e = .returned (.string c) ∧ Below wx.heap.size wx w') := fun wx hx => show_cell v h h2 c hc wx (hv.below hx)
    have HF : Hid (∀ wx, Calls Tryz.prog 33 #[.int .i64 v.k] wx fun e w' => e = .returned (.tuple #[.agg #[fn 53, fn 54], .bool true]) ∧ Below wx.heap.size wx w') := fun wx => by
      have := formOf_in v.k (by omega) (by omega) wx
      unfold wrF rdF at this
      rw [if_neg h2, if_neg h2] at this
      exact this
    obtain ⟨k, n, s, b⟩ := v
    simp only at HF
    clear h hc hk h2 hv
    go_enter Tryz.func35, Tryz.ntmps35
    go_wp2_with fail
    refine (HF.out _).mono ?_
    rintro e w1 ⟨rfl, hb1⟩
    have hB1 : Below w.heap.size w w1 := ((Below.refl _ _).alloc (Nat.le_refl _) _).trans (hb1.mono (by simp))
    obtain ⟨hc1, hf1⟩ := bcell hb1
    have hz1 : w.heap.size < w1.heap.size := by have := hb1.size; simp at this; omega
    have HB1 := Lib.hid hB1
    clear hb1 hB1
    go_wp2_with fail
    refine (HB.out _ (HB1.out.alloc (by omega) _)).mono ?_
    rintro e w2 ⟨rfl, hb2⟩
    have HB2 : Hid (Below w.heap.size w w2) := (HB1.out.alloc (by omega) _).trans (hb2.mono (by simp; omega))
    clear hb2 hc1 hf1
    go_wp2
    go_ret
    exact ⟨rfl, HB2.out⟩
end Go.Proofs.YtkficmbkoinjjaaGreatDoor
