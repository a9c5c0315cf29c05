/- The walk of the law ValueOrder. -/
import Derived.Test.YtcjibjiojgikjaaDoorO1
import Derived.Test.YtcjibjiojgikjaaDoorO2
import Derived.WalkKit
import Derived.WalkSpells
import Derived.WalkLawsBesides
import Derived.Lib.Hide
import Derived.Deep.DeepCutAuto
namespace Go.Proofs.YtcjibjiojgikjaaDoor.lawOrder
open Go Go.ChangeShapes Go.WideShapes Go.ChangeAt Go.RowKit
set_option maxHeartbeats 1000000
set_option linter.unusedVariables false
set_option linter.unusedSimpArgs false
attribute [local go_sem ↓] run_eql_V run_neq_V
/-- a test of the order of three, and what it comes to -/
def Sane (a b c d : Int) : Prop :=
  (a = -1 ∧ b = 1 ∧ ((c = 1 ∧ (d = -1 ∨ d = 0 ∨ d = 1)) ∨ (c = -1 ∧ d = -1) ∨ (c = 0 ∧ d = -1))) ∨ (a = 0 ∧ b = 0 ∧ d = c ∧ (c = -1 ∨ c = 0 ∨ c = 1)) ∨ (a = 1 ∧ b = -1 ∧ ((c = -1 ∧ (d = -1 ∨ d = 0 ∨ d = 1)) ∨ (c = 1 ∧ d = 1) ∨ (c = 0 ∧ d = 1)))
theorem sane {a b c d : Int} (ha : a = -1 ∨ a = 0 ∨ a = 1) (hb : a = -b) (hc : c = -1 ∨ c = 0 ∨ c = 1) (hd : d = -1 ∨ d = 0 ∨ d = 1) (ht : Tri a c d) : Sane a b c d := by
  obtain rfl : b = -a := by omega
  clear hb
  revert ht
  unfold Tri Sane
  rcases ha with rfl | rfl | rfl <;> rcases hc with rfl | rfl | rfl <;> rcases hd with rfl | rfl | rfl <;> decide
theorem walk (k1 n1 : Int) (s1 : ByteArray) (b1 : Bool) (k2 n2 : Int) (s2 : ByteArray) (b2 : Bool) (k3 n3 : Int) (s3 : ByteArray) (b3 : Bool) (W0 : World) (hI : Inv W0) :
    Calls Tryd.prog 4 #[.agg #[.int .i64 k1, .int .i64 n1, .string s1, .bool b1], .agg #[.int .i64 k2, .int .i64 n2, .string s2, .bool b2], .agg #[.int .i64 k3, .int .i64 n3, .string s3, .bool b3]] W0 fun e w' => e = .returned (.bool true) ∧ Below W0.heap.size W0 w' := by
  obtain ⟨a, ha⟩ : ∃ a, a = cmpV k1 n1 s1 b1 k2 n2 s2 b2 := ⟨_, rfl⟩
  obtain ⟨b, hb⟩ : ∃ b, b = cmpV k2 n2 s2 b2 k1 n1 s1 b1 := ⟨_, rfl⟩
  obtain ⟨c, hc⟩ : ∃ c, c = cmpV k2 n2 s2 b2 k3 n3 s3 b3 := ⟨_, rfl⟩
  obtain ⟨d, hd⟩ : ∃ d, d = cmpV k1 n1 s1 b1 k3 n3 s3 b3 := ⟨_, rfl⟩
  have hs : Sane a b c d := sane (by rw [ha]; exact cmpV_mem _ _ _ _ _ _ _ _) (by rw [ha, hb]; exact cmpV_neg _ _ _ _ _ _ _ _) (by rw [hc]; exact cmpV_mem _ _ _ _ _ _ _ _) (by rw [hd]; exact cmpV_mem _ _ _ _ _ _ _ _) (by rw [ha, hc, hd]; exact tri_cmpV _ _ _ _ _ _ _ _ _ _ _ _)
  have hz : (a == 0) = veq k1 n1 s1 b1 k2 n2 s2 b2 := by rw [ha]; exact cmpV_zero _ _ _ _ _ _ _ _
  have HA := Lib.hid ha.symm
  have HB := Lib.hid hb.symm
  have HC := Lib.hid hc.symm
  have HD := Lib.hid hd.symm
  have HO : Hid (∀ w0 w, valid k1 n1 s1 b1 = true → valid k2 n2 s2 b2 = true → k1 = k2 → k1 ≠ 3 → Ok w0 w →
      Calls Tryd.prog 16 #[.agg #[.int .i64 k1, .int .i64 n1, .string s1, .bool b1], .agg #[.int .i64 k2, .int .i64 n2, .string s2, .bool b2]] w fun e w' => e = .returned (.bool true) ∧ Ok w0 w') := by
    intro w0 w h1 h2 h3 h4 hw
    subst h3
    exact ordered_at k1 n1 s1 b1 k1 n2 s2 b2 _ (cmpV_mem _ _ _ _ _ _ _ _) rfl (rels_of h1 h2 h4) w0 w hw
  clear ha hb hc hd
  have hI3 : Inv (((W0.alloc (Obj.cells #[.int .i64 k1, .int .i64 n1, .string s1, .bool b1] 29)).alloc (Obj.cells #[.int .i64 k2, .int .i64 n2, .string s2, .bool b2] 29)).alloc (Obj.cells #[.int .i64 k3, .int .i64 n3, .string s3, .bool b3] 29)) := ((((Ok.start hI).alloc _).alloc _).alloc _).inv
  obtain ⟨W, eW⟩ : ∃ W, W = (((W0.alloc (Obj.cells #[.int .i64 k1, .int .i64 n1, .string s1, .bool b1] 29)).alloc (Obj.cells #[.int .i64 k2, .int .i64 n2, .string s2, .bool b2] 29)).alloc (Obj.cells #[.int .i64 k3, .int .i64 n3, .string s3, .bool b3] 29)) := ⟨_, rfl⟩
  have H0 : Hid (Ok W (((W0.alloc (Obj.cells #[.int .i64 k1, .int .i64 n1, .string s1, .bool b1] 29)).alloc (Obj.cells #[.int .i64 k2, .int .i64 n2, .string s2, .bool b2] 29)).alloc (Obj.cells #[.int .i64 k3, .int .i64 n3, .string s3, .bool b3] 29))) := by
    show Ok _ _
    rw [← eW]
    exact Ok.start (by rw [eW]; exact hI3)
  have x1 : W.cell? ⟨W0.heap.size, 0, none⟩ = some (.int .i64 k1) ∧ W.cell? ⟨W0.heap.size, 1, none⟩ = some (.int .i64 n1) ∧ W.cell? ⟨W0.heap.size, 2, none⟩ = some (.string s1) ∧ W.cell? ⟨W0.heap.size, 3, none⟩ = some (.bool b1) := by rw [eW]; simp [go_sem]
  have x2 : W.cell? ⟨W0.heap.size + 1, 0, none⟩ = some (.int .i64 k2) ∧ W.cell? ⟨W0.heap.size + 1, 1, none⟩ = some (.int .i64 n2) ∧ W.cell? ⟨W0.heap.size + 1, 2, none⟩ = some (.string s2) ∧ W.cell? ⟨W0.heap.size + 1, 3, none⟩ = some (.bool b2) := by rw [eW]; simp [go_sem]
  have x3 : W.cell? ⟨W0.heap.size + 1 + 1, 0, none⟩ = some (.int .i64 k3) ∧ W.cell? ⟨W0.heap.size + 1 + 1, 1, none⟩ = some (.int .i64 n3) ∧ W.cell? ⟨W0.heap.size + 1 + 1, 2, none⟩ = some (.string s3) ∧ W.cell? ⟨W0.heap.size + 1 + 1, 3, none⟩ = some (.bool b3) := by rw [eW]; simp [go_sem]
  obtain ⟨y10, y11, y12, y13⟩ := x1
  obtain ⟨y20, y21, y22, y23⟩ := x2
  obtain ⟨y30, y31, y32, y33⟩ := x3
  have z2 : W0.heap.size + 1 + 1 < W.heap.size := by rw [eW]; simp
  have z1 : W0.heap.size + 1 < W.heap.size := by omega
  have z0 : W0.heap.size < W.heap.size := by omega
  have HEND : Hid (∀ w', Ok W w' → Below W0.heap.size W0 w') := fun w' h => by
    have hb : Below W0.heap.size W0 W := by rw [eW]; exact ((((Ok.start hI).alloc _).alloc _).alloc _).below
    exact hb.trans (h.below.mono (by omega))
  have HZ := Lib.hid hz
  have HS := Lib.hid hs
  clear eW hI3 hI hz hs
  have hz := HZ.out.symm
  clear HZ
  rcases HS.out with ⟨rfl, rfl, ⟨rfl, rfl | rfl | rfl⟩ | ⟨rfl, rfl⟩ | ⟨rfl, rfl⟩⟩ | ⟨rfl, rfl, rfl, rfl | rfl | rfl⟩ | ⟨rfl, rfl, ⟨rfl, rfl | rfl | rfl⟩ | ⟨rfl, rfl⟩ | ⟨rfl, rfl⟩⟩
  all_goals
    first | rw [show ((0 : Int) == 0) = true from rfl] at hz | rw [show ((-1 : Int) == 0) = false from rfl] at hz | rw [show ((1 : Int) == 0) = false from rfl] at hz
    have HAB : Hid (∀ w, Ok W w → Calls Tryd.prog 15 #[.agg #[.int .i64 k1, .int .i64 n1, .string s1, .bool b1], .agg #[.int .i64 k2, .int .i64 n2, .string s2, .bool b2]] w fun e w' => e = .returned (.int .i64 _) ∧ Ok W w') := fun w hw => compare_ok _ _ _ _ _ _ _ _ _ HA.out W w hw
    have HBA : Hid (∀ w, Ok W w → Calls Tryd.prog 15 #[.agg #[.int .i64 k2, .int .i64 n2, .string s2, .bool b2], .agg #[.int .i64 k1, .int .i64 n1, .string s1, .bool b1]] w fun e w' => e = .returned (.int .i64 _) ∧ Ok W w') := fun w hw => compare_ok _ _ _ _ _ _ _ _ _ HB.out W w hw
    have HBC : Hid (∀ w, Ok W w → Calls Tryd.prog 15 #[.agg #[.int .i64 k2, .int .i64 n2, .string s2, .bool b2], .agg #[.int .i64 k3, .int .i64 n3, .string s3, .bool b3]] w fun e w' => e = .returned (.int .i64 _) ∧ Ok W w') := fun w hw => compare_ok _ _ _ _ _ _ _ _ _ HC.out W w hw
    have HAC : Hid (∀ w, Ok W w → Calls Tryd.prog 15 #[.agg #[.int .i64 k1, .int .i64 n1, .string s1, .bool b1], .agg #[.int .i64 k3, .int .i64 n3, .string s3, .bool b3]] w fun e w' => e = .returned (.int .i64 _) ∧ Ok W w') := fun w hw => compare_ok _ _ _ _ _ _ _ _ _ HD.out W w hw
    go_enter Tryd.func4, Tryd.ntmps4
    go_wp2_with (go_at_call 11; refine (begun_ok W _ H0.out).mono ?_; rintro e w' ⟨rfl, h⟩; have hcc := (bcell4 h.below).1; refine Hid.out ?_)
    refine Lib.hid ?_
    go_wp2_with fail
    refine (HAB.out _ (by assumption)).mono ?_
    clear hcc
    rintro e w1 ⟨rfl, h1⟩
    have hcc := (bcell4 h1.below).1
    go_wp2_with fail
    refine (HBA.out _ (by assumption)).mono ?_
    clear hcc
    rintro e w2 ⟨rfl, h2⟩
    have hcc := (bcell4 h2.below).1
    go_wp2_with fail
    refine (HBC.out _ (by assumption)).mono ?_
    clear hcc
    rintro e w3 ⟨rfl, h3⟩
    have hcc := (bcell4 h3.below).1
    go_wp2_with fail
    refine (HAC.out _ (by assumption)).mono ?_
    clear hcc
    rintro e w4 ⟨rfl, h4⟩
    have hcc := (bcell4 h4.below).1
    go_wp2_with fail
    refine (valid_ok _ _ _ _ W _ (by assumption)).mono ?_
    clear hcc
    rintro e w5 ⟨rfl, h5⟩
    have hcc := (bcell4 h5.below).1
    go_wp2_with fail
    refine (valid_ok _ _ _ _ W _ (by assumption)).mono ?_
    clear hcc
    rintro e w6 ⟨rfl, h6⟩
    have hcc := (bcell4 h6.below).1
    cases v1 : valid k1 n1 s1 b1 <;> cases v2 : valid k2 n2 s2 b2
    · go_wp2
      go_ret
      exact ⟨rfl, HEND.out _ h6⟩
    · go_wp2
      go_ret
      exact ⟨rfl, HEND.out _ h6⟩
    · go_wp2
      go_ret
      exact ⟨rfl, HEND.out _ h6⟩
    · by_cases hk : k1 = k2 ∧ k1 ≠ 3
      · have q1 : (k1 == k2) = true := by simp [hk.1]
        have q2 : (k1 != 3) = true := by simp [hk.2]
        have HG := Lib.hid (HO.out W w6 v1 v2 hk.1 hk.2 h6)
        clear hk
        go_wp2_with (go_at_call 16; refine HG.out.mono ?_; rintro e w7 ⟨rfl, h7⟩)
        go_ret
        exact ⟨rfl, HEND.out _ h7⟩
      · by_cases hkk : k1 = k2
        · have q1 : (k1 == k2) = true := by simp [hkk]
          have q2 : (k1 != 3) = false := by
            have : k1 = 3 := Classical.byContradiction fun h => hk ⟨hkk, h⟩
            simp [this]
          clear hk hkk
          go_wp2
          go_ret
          exact ⟨rfl, HEND.out _ h6⟩
        · have q1 : (k1 == k2) = false := by simp [hkk]
          clear hk hkk
          go_wp2
          go_ret
          exact ⟨rfl, HEND.out _ h6⟩
end Go.Proofs.YtcjibjiojgikjaaDoor.lawOrder
