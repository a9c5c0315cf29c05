/- The walk of the law ValueLogic. -/
import Derived.Test.YtcjibjiojgikjaaDoorO1
import Derived.WalkKit
import Derived.WalkSpells
import Derived.WalkLawsBesides
import Derived.Lib.Hide
import Derived.LoopN
import Derived.LoopTactic
import Derived.Deep.RegionWith
import Derived.Deep.DeepCutAuto
import Derived.Deep.CutRange
import Derived.Deep.LoopGhost
namespace Go.Proofs.YtcjibjiojgikjaaDoor.lawLogic
open Go Go.ChangeShapes Go.WideShapes Go.ChangeAt Go.RowKit
set_option maxHeartbeats 10000000
set_option linter.unusedVariables false
set_option linter.unusedSimpArgs false
attribute [local go_sem ↓] run_eql_V run_neq_V
theorem not_ok (p : Bool) (w0 w : World) (hw : Ok w0 w) : Calls Tryd.prog 18 #[.int .i64 2, .agg #[.int .i64 3, .int .i64 0, .string ⟨#[]⟩, .bool p]] w
    fun e w' => e = .returned (.tuple #[.agg #[.int .i64 3, .int .i64 0, .string ⟨#[]⟩, .bool (!p)], .int .i64 0]) ∧ Ok w0 w' ∧ Below w.heap.size w w' := by
  have := unary_any w hw.inv.rules 2 3 0 ⟨#[]⟩ p
  have hE : unE 2 3 0 ⟨#[]⟩ p = 0 := by
    unfold unE
    rw [if_pos (.inr rfl), if_pos (valid_mk3 _), if_neg (by decide)]
  have e : unV 2 3 0 ⟨#[]⟩ p = (3, 0, ⟨#[]⟩, !p) := by
    unfold unV
    rw [if_pos hE, if_neg (by decide)]
  rw [e, hE] at this
  exact this.mono fun _ _ ⟨h1, h2⟩ => ⟨h1, hw.on h2, h2⟩
theorem join_is (op : Int) (ho : op = 12 ∨ op = 13) (a b : Bool) : BinIs op 3 0 ⟨#[]⟩ a 3 0 ⟨#[]⟩ b (joinB op a b) := by
  have hE : binE op 3 0 ⟨#[]⟩ a 3 0 ⟨#[]⟩ b = 0 := by
    unfold binE
    rw [if_neg (by omega), if_pos ⟨valid_mk3 _, valid_mk3 _⟩]
    rcases ho with rfl | rfl <;> exact if_neg (by decide)
  refine ⟨hE, ?_⟩
  unfold binV
  rw [if_pos hE, if_neg (by omega), if_neg (by omega)]
theorem yes_ok (op : Int) (ho : op = 12 ∨ op = 13) (a b r : Bool) (hr : joinB op a b = r) (w0 w : World) (hw : Ok w0 w) :
    Calls Tryd.prog 19 #[.int .i64 op, .agg #[.int .i64 3, .int .i64 0, .string ⟨#[]⟩, .bool a], .agg #[.int .i64 3, .int .i64 0, .string ⟨#[]⟩, .bool b], .bool r] w
    fun e w' => e = .returned (.bool true) ∧ Ok w0 w' ∧ Below w.heap.size w w' := by
  subst hr
  exact (yes_any _ _ _ _ _ _ _ _ _ _ (join_is op ho a b) w w (Ok.start hw.inv)).mono fun _ _ ⟨h1, h2⟩ => ⟨h1, hw.on h2.below, h2.below⟩
/-- what the operation op answers -/
def Ans (op k n : Int) (s : ByteArray) (b : Bool) (k' n' : Int) (s' : ByteArray) (b' : Bool) (K N : Int) (S : ByteArray) (T : Bool) (E : Int) : Prop :=
  ∀ w0 w, Ok w0 w → Calls Tryd.prog 20 #[.int .i64 op, .agg #[.int .i64 k, .int .i64 n, .string s, .bool b], .agg #[.int .i64 k', .int .i64 n', .string s', .bool b']] w
    fun e w' => e = .returned (.tuple #[.agg #[.int .i64 K, .int .i64 N, .string S, .bool T], .int .i64 E]) ∧ Ok w0 w' ∧ Below w.heap.size w w'
theorem ans (op k n : Int) (s : ByteArray) (b : Bool) (k' n' : Int) (s' : ByteArray) (b' : Bool) :
    Ans op k n s b k' n' s' b' (binV op k n s b k' n' s' b').1 (binV op k n s b k' n' s' b').2.1 (binV op k n s b k' n' s' b').2.2.1 (binV op k n s b k' n' s' b').2.2.2 (binE op k n s b k' n' s' b') :=
  fun w0 w hw => (binary_any w hw.inv.rules op k n s b k' n' s' b').mono fun _ _ ⟨h1, h2⟩ => ⟨h1, hw.on h2, h2⟩
theorem turned (o o' : Int) (h : (o = 6 ∧ o' = 7) ∨ (o = 8 ∧ o' = 11) ∨ (o = 10 ∧ o' = 9)) (k n : Int) (s : ByteArray) (b : Bool) (k' n' : Int) (s' : ByteArray) (b' : Bool) :
    ∃ (K N : Int) (S : ByteArray) (T : Bool) (K' N' : Int) (S' : ByteArray) (T' : Bool) (E : Int), Ans o k n s b k' n' s' b' K N S T E ∧ Ans o' k n s b k' n' s' b' K' N' S' T' E ∧ ((E = 0 ∧ (T == T') = false) ∨ E ≠ 0) := by
  have hr : rK o = rK o' := by rcases h with ⟨rfl, rfl⟩ | ⟨rfl, rfl⟩ | ⟨rfl, rfl⟩ <;> decide
  have hE : binE o k n s b k' n' s' b' = binE o' k n s b k' n' s' b' := by
    have n1 : ¬ (o < 3 ∨ 14 ≤ o) := by omega
    have n2 : ¬ (o' < 3 ∨ 14 ≤ o') := by omega
    unfold binE
    rw [hr, if_neg n1, if_neg n2]
  refine ⟨_, _, _, _, _, _, _, _, _, ans o k n s b k' n' s' b', by rw [hE]; exact ans o' k n s b k' n' s' b', ?_⟩
  by_cases h0 : binE o k n s b k' n' s' b' = 0
  · refine .inl ⟨h0, ?_⟩
    have h0' : binE o' k n s b k' n' s' b' = 0 := by rw [← hE]; exact h0
    have n1 : ¬ o ≤ 5 := by omega
    have n2 : ¬ o' ≤ 5 := by omega
    have n3 : o ≤ 11 := by omega
    have n4 : o' ≤ 11 := by omega
    unfold binV
    rw [if_pos h0, if_pos h0', if_neg n1, if_neg n2, if_pos n3, if_pos n4]
    have hm := cmpV_mem k n s b k' n' s' b'
    show (holdsB o (cmpV k n s b k' n' s' b') == holdsB o' (cmpV k n s b k' n' s' b')) = false
    rcases hm with hm | hm | hm <;> rw [hm] <;> rcases h with ⟨rfl, rfl⟩ | ⟨rfl, rfl⟩ | ⟨rfl, rfl⟩ <;> decide
  · exact .inr h0
def Turn (o o' : Int) : Prop := (o = 6 ∧ o' = 7) ∨ (o = 8 ∧ o' = 11) ∨ (o = 10 ∧ o' = 9)
/-- the three pairs of relations lie there -/
def Pairs (w : World) (B : Nat) : Prop := ∀ k, k < 3 → ∃ o o' : Int, Turn o o' ∧ w.cell? ⟨B, k * 2, none⟩ = some (.int .i64 o) ∧ w.cell? ⟨B, k * 2 + 1, none⟩ = some (.int .i64 o')
theorem Pairs.below {w w' : World} {B : Nat} (h : Pairs w B) (hB : B < w.heap.size) (hb : Below w.heap.size w w') : Pairs w' B := by
  intro k hk
  obtain ⟨o, o', ht, h1, h2⟩ := h k hk
  exact ⟨o, o', ht, (hb.cell (p := ⟨B, k * 2, none⟩) hB).trans h1, (hb.cell (p := ⟨B, k * 2 + 1, none⟩) hB).trans h2⟩
theorem pairs_laid {w : World} {B : Nat} (h0 : w.cell? ⟨B, 0, none⟩ = some (.int .i64 6)) (h1 : w.cell? ⟨B, 1, none⟩ = some (.int .i64 7)) (h2 : w.cell? ⟨B, 2, none⟩ = some (.int .i64 8)) (h3 : w.cell? ⟨B, 3, none⟩ = some (.int .i64 11)) (h4 : w.cell? ⟨B, 4, none⟩ = some (.int .i64 10)) (h5 : w.cell? ⟨B, 5, none⟩ = some (.int .i64 9)) : Pairs w B := by
  intro k hk
  have hk3 : k = 0 ∨ k = 1 ∨ k = 2 := by omega
  rcases hk3 with rfl | rfl | rfl
  · exact ⟨6, 7, .inl ⟨rfl, rfl⟩, h0, h1⟩
  · exact ⟨8, 11, .inr (.inl ⟨rfl, rfl⟩), h2, h3⟩
  · exact ⟨10, 9, .inr (.inr ⟨rfl, rfl⟩), h4, h5⟩
set_option maxRecDepth 100000 in
theorem walk (p q : Bool) (k1 n1 : Int) (s1 : ByteArray) (b1 : Bool) (k2 n2 : Int) (s2 : ByteArray) (b2 : Bool) (W0 : World) (hI : Inv W0) :
    Calls Tryd.prog 6 #[.bool p, .bool q, .agg #[.int .i64 k1, .int .i64 n1, .string s1, .bool b1], .agg #[.int .i64 k2, .int .i64 n2, .string s2, .bool b2]] W0 fun e w' => e = .returned (.bool true) ∧ Below W0.heap.size W0 w' := by
  have hI3 : Inv ((W0.alloc (Obj.cells #[.int .i64 k1, .int .i64 n1, .string s1, .bool b1] 29)).alloc (Obj.cells #[.int .i64 k2, .int .i64 n2, .string s2, .bool b2] 29)) := (((Ok.start hI).alloc _).alloc _).inv
  obtain ⟨W, eW⟩ : ∃ W, W = ((W0.alloc (Obj.cells #[.int .i64 k1, .int .i64 n1, .string s1, .bool b1] 29)).alloc (Obj.cells #[.int .i64 k2, .int .i64 n2, .string s2, .bool b2] 29)) := ⟨_, rfl⟩
  have H0 : Hid (Ok W ((W0.alloc (Obj.cells #[.int .i64 k1, .int .i64 n1, .string s1, .bool b1] 29)).alloc (Obj.cells #[.int .i64 k2, .int .i64 n2, .string s2, .bool b2] 29))) := by
    show Ok _ _
    rw [← eW]
    exact Ok.start (by rw [eW]; exact hI3)
  have x1 : W.cell? ⟨W0.heap.size, 0, none⟩ = some (.int .i64 k1) ∧ W.cell? ⟨W0.heap.size, 1, none⟩ = some (.int .i64 n1) ∧ W.cell? ⟨W0.heap.size, 2, none⟩ = some (.string s1) ∧ W.cell? ⟨W0.heap.size, 3, none⟩ = some (.bool b1) := by rw [eW]; simp [go_sem]
  have x2 : W.cell? ⟨W0.heap.size + 1, 0, none⟩ = some (.int .i64 k2) ∧ W.cell? ⟨W0.heap.size + 1, 1, none⟩ = some (.int .i64 n2) ∧ W.cell? ⟨W0.heap.size + 1, 2, none⟩ = some (.string s2) ∧ W.cell? ⟨W0.heap.size + 1, 3, none⟩ = some (.bool b2) := by rw [eW]; simp [go_sem]
  have z1 : W0.heap.size + 1 < W.heap.size := by rw [eW]; simp
  have z0 : W0.heap.size < W.heap.size := by omega
  have X1 := Lib.hid x1
  have X2 := Lib.hid x2
  have HEND : Hid (∀ w', Ok W w' → Below W0.heap.size W0 w') := fun w' h => by
    have hb : Below W0.heap.size W0 W := by rw [eW]; exact (((Ok.start hI).alloc _).alloc _).below
    exact hb.trans (h.below.mono (by omega))
  clear eW hI3 hI x1 x2
  have q1 : veq 3 0 ⟨#[]⟩ p 3 0 ⟨#[]⟩ p = true := veq_self _ _ _ _
  have q2 : veq 3 0 ⟨#[]⟩ (!p) 3 0 ⟨#[]⟩ p = false := by cases p <;> simp [veq]
  go_enter Tryd.func6, Tryd.ntmps6
  go_wp2_with (go_at_call 11; refine (begun_ok W _ H0.out).mono ?_; rintro e w1 ⟨rfl, h1⟩; refine Hid.out ?_)
  refine Lib.hid ?_
  have H1 := Lib.hid h1
  have zb := h1.below.size
  clear h1
  go_wp2_with fail
  refine (not_ok _ W _ ((H1.out.alloc _).alloc _)).mono ?_
  rintro e w2 ⟨rfl, h2, hb2⟩
  have y2 := hb2.size
  simp at y2
  have z20 : w1.heap.size < w2.heap.size := by omega
  have z21 : w1.heap.size + 1 < w2.heap.size := by omega
  obtain ⟨hc2, hf2⟩ := bcell hb2
  have H2 := Lib.hid h2
  clear h2 hb2
  go_wp2_with fail
  refine (not_ok _ W _ (H2.out.alloc _)).mono ?_
  rintro e w3 ⟨rfl, h3, hb3⟩
  have y3 := hb3.size
  simp at y3
  have z30 : w1.heap.size < w3.heap.size := by omega
  have z31 : w1.heap.size + 1 < w3.heap.size := by omega
  have z32 : w2.heap.size < w3.heap.size := by omega
  have x30 : w1.heap.size < w2.heap.size + 1 := by omega
  have x31 : w1.heap.size + 1 < w2.heap.size + 1 := by omega
  obtain ⟨hc3, hf3⟩ := bcell hb3
  have H3 := Lib.hid h3
  clear h3 hb3
  go_wp2_with fail
  refine (not_ok _ W _ (H3.out.alloc _)).mono ?_
  rintro e w4 ⟨rfl, h4, hb4⟩
  have y4 := hb4.size
  simp at y4
  have z40 : w1.heap.size < w4.heap.size := by omega
  have z41 : w1.heap.size + 1 < w4.heap.size := by omega
  have z42 : w2.heap.size < w4.heap.size := by omega
  have z43 : w3.heap.size < w4.heap.size := by omega
  have x40 : w1.heap.size < w3.heap.size + 1 := by omega
  have x41 : w1.heap.size + 1 < w3.heap.size + 1 := by omega
  have x42 : w2.heap.size < w3.heap.size + 1 := by omega
  obtain ⟨hc4, hf4⟩ := bcell hb4
  have H4 := Lib.hid h4
  clear h4 hb4
  go_upto_region 11 with fail
  go_cut [105] from 24 to 105 (fun s wx => s = .bool false ∧ Ok W wx)
  case first =>
    clear q1 q2
    cases p <;> cases q
    all_goals
      go_wp2_with fail
      refine (yes_ok 12 (.inl rfl) _ _ _ rfl W _ (H4.out.alloc _)).mono ?_
      rintro e w5 ⟨rfl, h5, hb5⟩
      have y5 := hb5.size
      simp at y5
      have v40 : w1.heap.size < w4.heap.size + 1 := by omega
      have v41 : w1.heap.size + 1 < w4.heap.size + 1 := by omega
      have v42 : w2.heap.size < w4.heap.size + 1 := by omega
      have v43 : w3.heap.size < w4.heap.size + 1 := by omega
      obtain ⟨hc5, hf5⟩ := bcell hb5
      have H5 := Lib.hid h5
      clear h5
      go_wp2_with fail
      refine (yes_ok 13 (.inr rfl) _ _ _ rfl W _ H5.out).mono ?_
      rintro e w6 ⟨rfl, h6, hb6⟩
      have y6 := hb6.size
      clear hc5 hf5
      replace hb6 := hb5.trans (hb6.mono hb5.size)
      obtain ⟨hc6, hf6⟩ := bcell4 hb6
      have H6 := Lib.hid h6
      clear h6
      go_wp2_with fail
      refine (yes_ok 12 (.inl rfl) _ _ _ rfl W _ H6.out).mono ?_
      rintro e w7 ⟨rfl, h7, hb7⟩
      have y7 := hb7.size
      clear hc6 hf6
      replace hb7 := hb6.trans (hb7.mono hb6.size)
      obtain ⟨hc7, hf7⟩ := bcell4 hb7
      have H7 := Lib.hid h7
      clear h7
      go_wp2_with fail
      refine (yes_ok 13 (.inr rfl) _ _ _ rfl W _ H7.out).mono ?_
      rintro e w8 ⟨rfl, h8, hb8⟩
      have y8 := hb8.size
      clear hc7 hf7
      replace hb8 := hb7.trans (hb8.mono hb7.size)
      obtain ⟨hc8, hf8⟩ := bcell4 hb8
      have H8 := Lib.hid h8
      clear h8
      go_wp2_with fail
      go_meet
      exact ⟨rfl, H8.out⟩
  case rest =>
  obtain ⟨rfl, hwc⟩ := hcut
  obtain ⟨wp, ewp⟩ : ∃ x, x = wc := ⟨_, rfl⟩
  subst ewp
  have HWC := Lib.hid hwc
  clear hwc hc2 hc3 hc4 hf2 hf3 hf4 q1 q2
  clear y2 y3 y4 z20 z21 z30 z31 z32 x30 x31 z40 z41 z42 z43 x40 x41 x42 H2 H3 H4
  go_wp2
  go_loopg [19] 3 (fun g s19 wr => ∃ k : Nat, k ≤ 3 ∧ g = 3 - k ∧ s19 = .int .i64 k ∧ Ok W wr ∧ Pairs wr wp.heap.size ∧ wp.heap.size < wr.heap.size)
  case atStart => exact ⟨0, by omega, rfl, rfl, HWC.out.alloc _, pairs_laid (by simp [go_sem]) (by simp [go_sem]) (by simp [go_sem]) (by simp [go_sem]) (by simp [go_sem]) (by simp [go_sem]), by simp⟩
  case round =>
    obtain ⟨k, hk, rfl, rfl, hok, hpp, hzz⟩ := hrel
    by_cases hlt : k < 3
    · obtain ⟨o, o', ht, p0, p1⟩ := hpp k hlt
      obtain ⟨K, N, S, T, K', N', S', T', E, ha, hb, hE⟩ := turned o o' ht k1 n1 s1 b1 k2 n2 s2 b2
      have HA := Lib.hid ha
      have HB := Lib.hid hb
      have HE := Lib.hid hE
      have HK := Lib.hid hok
      have HP := Lib.hid hpp
      have g0 := (hok.below.cell (p := ⟨W0.heap.size, 0, none⟩) (by exact z0)).trans X1.out.1
      have g1 := (hok.below.cell (p := ⟨W0.heap.size, 1, none⟩) (by exact z0)).trans X1.out.2.1
      have g2 := (hok.below.cell (p := ⟨W0.heap.size, 2, none⟩) (by exact z0)).trans X1.out.2.2.1
      have g3 := (hok.below.cell (p := ⟨W0.heap.size, 3, none⟩) (by exact z0)).trans X1.out.2.2.2
      have g4 := (hok.below.cell (p := ⟨W0.heap.size + 1, 0, none⟩) (by exact z1)).trans X2.out.1
      have g5 := (hok.below.cell (p := ⟨W0.heap.size + 1, 1, none⟩) (by exact z1)).trans X2.out.2.1
      have g6 := (hok.below.cell (p := ⟨W0.heap.size + 1, 2, none⟩) (by exact z1)).trans X2.out.2.2.1
      have g7 := (hok.below.cell (p := ⟨W0.heap.size + 1, 3, none⟩) (by exact z1)).trans X2.out.2.2.2
      have zw := hok.below.size
      have t0 : W0.heap.size < wr.heap.size := by omega
      have t1 : W0.heap.size + 1 < wr.heap.size := by omega
      clear ha hb hE hok hpp ht
      go_upto_region 17 with fail
      go_cut [20, 21] from 110 to 147 (fun s20 s21 wx => ∃ B1, s20 = .pointer (some ⟨B1, 0, none⟩) ∧ s21 = .int .i64 E ∧ wx.cell? ⟨B1, 3, none⟩ = some (.bool T) ∧ Below wr.heap.size wr wx ∧ B1 < wx.heap.size)
      case first =>
        go_region_with (go_at_call 20; refine (HA.out W _ (by first | exact HK.out.drew | exact (HK.out.alloc _).drew)).mono ?_; rintro e w9 ⟨rfl, h9, hb9⟩; obtain ⟨hc9, hf9⟩ := bcell hb9; have hB9 : Below wr.heap.size wr w9 := (by first | exact (((Below.refl _ _).alloc (Nat.le_refl _) _).drew).trans (hb9.mono (by simp)) | exact ((Below.refl _ _).drew).trans (hb9.mono (Nat.le_refl _))))
        all_goals
          go_wp2_with fail
          go_meet
          first
          | exact ⟨w9.heap.size, rfl, rfl, by simp [go_sem], hB9.alloc hB9.size _, by simp⟩
          | exact ⟨wr.heap.size, rfl, rfl, by simp [go_sem, hc9], (by repeat (first | exact hB9 | exact Below.refl _ _ | apply Below.drew | refine Below.setCell ?_ (by show wr.heap.size ≤ wr.heap.size; omega) _ | refine Below.alloc ?_ (by first | omega | (simp [World.setCell]; done) | (simp [World.setCell]; omega)) _)), by have hs9 := hb9.size; simp [World.setCell] at hs9 ⊢; omega⟩
      case rest =>
      obtain ⟨B1, rfl, rfl, k1c, hbx, hB1⟩ := hcut
      obtain ⟨wd, ewd⟩ : ∃ x, x = wc := ⟨_, rfl⟩
      subst ewd
      have HX := Lib.hid (HK.out.on hbx)
      have HBX := Lib.hid hbx
      have hx := bcell hbx
      have r0 := (hx.1 _ 0 t0).trans g0
      have r1 := (hx.1 _ 1 t0).trans g1
      have r2 := (hx.1 _ 2 t0).trans g2
      have r3 := (hx.1 _ 3 t0).trans g3
      have r4 := (hx.1 _ 0 t1).trans g4
      have r5 := (hx.1 _ 1 t1).trans g5
      have r6 := (hx.1 _ 2 t1).trans g6
      have r7 := (hx.1 _ 3 t1).trans g7
      have r8 := (hx.1 _ _ hzz).trans p1
      have KC := Lib.hid k1c
      have zx := hbx.size
      have y0 : W0.heap.size < wd.heap.size := by omega
      have y1 : W0.heap.size + 1 < wd.heap.size := by omega
      have y2 : wp.heap.size < wd.heap.size := by omega
      clear g0 g1 g2 g3 g4 g5 g6 g7 p0 p1 hbx hx k1c t0 t1
      go_upto_region 18 with fail
      go_cut [22, 23] from 110 to 147 (fun s22 s23 wx => ∃ B2, s22 = .pointer (some ⟨B2, 0, none⟩) ∧ s23 = .int .i64 E ∧ wx.cell? ⟨B2, 3, none⟩ = some (.bool T') ∧ Below wd.heap.size wd wx ∧ B2 < wx.heap.size)
      case first =>
        go_region_with (go_at_call 20; refine (HB.out W _ (by first | exact HX.out.drew | exact (HX.out.alloc _).drew)).mono ?_; rintro e w9 ⟨rfl, h9, hb9⟩; obtain ⟨hc9, hf9⟩ := bcell hb9; have hB9 : Below wd.heap.size wd w9 := (by first | exact (((Below.refl _ _).alloc (Nat.le_refl _) _).drew).trans (hb9.mono (by simp)) | exact ((Below.refl _ _).drew).trans (hb9.mono (Nat.le_refl _))))
        all_goals
          go_wp2_with fail
          go_meet
          first
          | exact ⟨w9.heap.size, rfl, rfl, by simp [go_sem], hB9.alloc hB9.size _, by simp⟩
          | exact ⟨wd.heap.size, rfl, rfl, by simp [go_sem, hc9], (by repeat (first | exact hB9 | exact Below.refl _ _ | apply Below.drew | refine Below.setCell ?_ (by show wd.heap.size ≤ wd.heap.size; omega) _ | refine Below.alloc ?_ (by first | omega | (simp [World.setCell]; done) | (simp [World.setCell]; omega)) _)), by have hs9 := hb9.size; simp [World.setCell] at hs9 ⊢; omega⟩
      case rest =>
      obtain ⟨B2, rfl, rfl, k2c, hby, hB2⟩ := hcut
      have k1d := (hby.cell (p := ⟨B1, 3, none⟩) (by exact hB1)).trans KC.out
      have HY := Lib.hid (HX.out.on hby)
      have HPP := Lib.hid ((HP.out.below hzz HBX.out).below y2 hby)
      have zy := hby.size
      have HBY := Lib.hid hby
      clear hby r0 r1 r2 r3 r4 r5 r6 r7 r8
      rcases HE.out with ⟨he, hT⟩ | hne
      · subst he
        go_wp2
        go_roundg (3 - (k + 1))
        case measure => omega
        case rel => exact ⟨k + 1, by omega, rfl, by go_num, HY.out, HPP.out, by omega⟩
      · have he : (E == 0) = false := by simp [hne]
        clear hne
        go_wp2
        go_roundg (3 - (k + 1))
        case measure => omega
        case rel => exact ⟨k + 1, by omega, rfl, by go_num, HY.out, HPP.out, by omega⟩
    · have hkk : k = 3 := by omega
      subst hkk
      go_wp2
      go_ret
      exact ⟨rfl, HEND.out _ hok⟩
end Go.Proofs.YtcjibjiojgikjaaDoor.lawLogic
