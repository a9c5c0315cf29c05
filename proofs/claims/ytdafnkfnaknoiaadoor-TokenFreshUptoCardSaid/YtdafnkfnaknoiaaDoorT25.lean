/- Contract of token.Word. One call of the laws, held against the document's own answer: plays. What every law of this layer asks ahead: begun. -/
import Derived.Test.YtdafnkfnaknoiaaDoorT9
import Derived.Test.YtdafnkfnaknoiaaDoorT23
import Derived.Test.YtdafnkfnaknoiaaDoorT19
namespace Go.Proofs.YtdafnkfnaknoiaaDoor
open Go Go.RowKit
set_option maxHeartbeats 4000000
set_option linter.unusedVariables false
set_option linter.unusedSimpArgs false
/-- the table of the words lies there -/
structure Wd (w : World) : Prop where
  lt : 0 < w.heap.size
  c : ∀ (j : Nat) (h : j < wdL.length), w.cell? ⟨0, j, none⟩ = some (.string ⟨wdL[j].toArray⟩)
theorem Wd.below {w w' : World} (h : Wd w) (hb : Below w.heap.size w w') : Wd w' :=
  ⟨Nat.lt_of_lt_of_le h.lt hb.size, fun j hj => (hb.cell (p := ⟨0, j, none⟩) h.lt).trans (h.c j hj)⟩
theorem iw0 (w : World) : (Instr.index 73 (.agg wdV) (.int .i64 0)).run Tryd.prog w = .ok (.string ⟨#[80, 65, 84, 84, 69, 82, 78]⟩) w := by kernel_rfl
theorem iw1 (w : World) : (Instr.index 73 (.agg wdV) (.int .i64 1)).run Tryd.prog w = .ok (.string ⟨#[83, 69, 81]⟩) w := by kernel_rfl
theorem iw2 (w : World) : (Instr.index 73 (.agg wdV) (.int .i64 2)).run Tryd.prog w = .ok (.string ⟨#[80, 65, 82, 84, 73, 84, 73, 79, 78]⟩) w := by kernel_rfl
theorem iw3 (w : World) : (Instr.index 73 (.agg wdV) (.int .i64 3)).run Tryd.prog w = .ok (.string ⟨#[66, 89]⟩) w := by kernel_rfl
theorem iw4 (w : World) : (Instr.index 73 (.agg wdV) (.int .i64 4)).run Tryd.prog w = .ok (.string ⟨#[87, 72, 69, 82, 69]⟩) w := by kernel_rfl
theorem iw5 (w : World) : (Instr.index 73 (.agg wdV) (.int .i64 5)).run Tryd.prog w = .ok (.string ⟨#[87, 73, 84, 72, 73, 78]⟩) w := by kernel_rfl
theorem iw6 (w : World) : (Instr.index 73 (.agg wdV) (.int .i64 6)).run Tryd.prog w = .ok (.string ⟨#[82, 69, 84, 85, 82, 78]⟩) w := by kernel_rfl
theorem iw7 (w : World) : (Instr.index 73 (.agg wdV) (.int .i64 7)).run Tryd.prog w = .ok (.string ⟨#[65, 78, 68]⟩) w := by kernel_rfl
theorem iw8 (w : World) : (Instr.index 73 (.agg wdV) (.int .i64 8)).run Tryd.prog w = .ok (.string ⟨#[79, 82]⟩) w := by kernel_rfl
theorem iw9 (w : World) : (Instr.index 73 (.agg wdV) (.int .i64 9)).run Tryd.prog w = .ok (.string ⟨#[78, 79, 84]⟩) w := by kernel_rfl
theorem iw10 (w : World) : (Instr.index 73 (.agg wdV) (.int .i64 10)).run Tryd.prog w = .ok (.string ⟨#[84, 82, 85, 69]⟩) w := by kernel_rfl
theorem iw11 (w : World) : (Instr.index 73 (.agg wdV) (.int .i64 11)).run Tryd.prog w = .ok (.string ⟨#[70, 65, 76, 83, 69]⟩) w := by kernel_rfl
theorem iw12 (w : World) : (Instr.index 73 (.agg wdV) (.int .i64 12)).run Tryd.prog w = .ok (.string ⟨#[84, 89, 80, 69]⟩) w := by kernel_rfl
theorem iw13 (w : World) : (Instr.index 73 (.agg wdV) (.int .i64 13)).run Tryd.prog w = .ok (.string ⟨#[73, 78, 84]⟩) w := by kernel_rfl
theorem iw14 (w : World) : (Instr.index 73 (.agg wdV) (.int .i64 14)).run Tryd.prog w = .ok (.string ⟨#[83, 84, 82]⟩) w := by kernel_rfl
theorem iw15 (w : World) : (Instr.index 73 (.agg wdV) (.int .i64 15)).run Tryd.prog w = .ok (.string ⟨#[66, 79, 79, 76]⟩) w := by kernel_rfl
theorem idx_words (w : World) (i : Nat) (h : i < wdL.length) : (Instr.index 73 (.agg wdV) (.int .i64 i)).run Tryd.prog w = .ok (.string ⟨wdL[i].toArray⟩) w := by
  have h16 : i < 16 := h
  have hq : i = 0 ∨ i = 1 ∨ i = 2 ∨ i = 3 ∨ i = 4 ∨ i = 5 ∨ i = 6 ∨ i = 7 ∨ i = 8 ∨ i = 9 ∨ i = 10 ∨ i = 11 ∨ i = 12 ∨ i = 13 ∨ i = 14 ∨ i = 15 := by omega
  rcases hq with rfl | rfl | rfl | rfl | rfl | rfl | rfl | rfl | rfl | rfl | rfl | rfl | rfl | rfl | rfl | rfl
  · exact iw0 w
  · exact iw1 w
  · exact iw2 w
  · exact iw3 w
  · exact iw4 w
  · exact iw5 w
  · exact iw6 w
  · exact iw7 w
  · exact iw8 w
  · exact iw9 w
  · exact iw10 w
  · exact iw11 w
  · exact iw12 w
  · exact iw13 w
  · exact iw14 w
  · exact iw15 w
set_option maxRecDepth 100000 in
theorem word_all (s : ByteArray) (w : World) (h : Wd w) : Calls Tryd.prog 24 #[.string s] w fun e w' => e = .returned (.bool (inL wdL s.data.toList)) ∧ w' = w := by
  have c0 : w.cell? ⟨0, 0, none⟩ = some (.string ⟨#[80, 65, 84, 84, 69, 82, 78]⟩) := h.c 0 (by decide)
  have c1 : w.cell? ⟨0, 1, none⟩ = some (.string ⟨#[83, 69, 81]⟩) := h.c 1 (by decide)
  have c2 : w.cell? ⟨0, 2, none⟩ = some (.string ⟨#[80, 65, 82, 84, 73, 84, 73, 79, 78]⟩) := h.c 2 (by decide)
  have c3 : w.cell? ⟨0, 3, none⟩ = some (.string ⟨#[66, 89]⟩) := h.c 3 (by decide)
  have c4 : w.cell? ⟨0, 4, none⟩ = some (.string ⟨#[87, 72, 69, 82, 69]⟩) := h.c 4 (by decide)
  have c5 : w.cell? ⟨0, 5, none⟩ = some (.string ⟨#[87, 73, 84, 72, 73, 78]⟩) := h.c 5 (by decide)
  have c6 : w.cell? ⟨0, 6, none⟩ = some (.string ⟨#[82, 69, 84, 85, 82, 78]⟩) := h.c 6 (by decide)
  have c7 : w.cell? ⟨0, 7, none⟩ = some (.string ⟨#[65, 78, 68]⟩) := h.c 7 (by decide)
  have c8 : w.cell? ⟨0, 8, none⟩ = some (.string ⟨#[79, 82]⟩) := h.c 8 (by decide)
  have c9 : w.cell? ⟨0, 9, none⟩ = some (.string ⟨#[78, 79, 84]⟩) := h.c 9 (by decide)
  have c10 : w.cell? ⟨0, 10, none⟩ = some (.string ⟨#[84, 82, 85, 69]⟩) := h.c 10 (by decide)
  have c11 : w.cell? ⟨0, 11, none⟩ = some (.string ⟨#[70, 65, 76, 83, 69]⟩) := h.c 11 (by decide)
  have c12 : w.cell? ⟨0, 12, none⟩ = some (.string ⟨#[84, 89, 80, 69]⟩) := h.c 12 (by decide)
  have c13 : w.cell? ⟨0, 13, none⟩ = some (.string ⟨#[73, 78, 84]⟩) := h.c 13 (by decide)
  have c14 : w.cell? ⟨0, 14, none⟩ = some (.string ⟨#[83, 84, 82]⟩) := h.c 14 (by decide)
  have c15 : w.cell? ⟨0, 15, none⟩ = some (.string ⟨#[66, 79, 79, 76]⟩) := h.c 15 (by decide)
  go_enter Tryd.func24, Tryd.ntmps24
  go_upto_region 2 with fail
  obtain ⟨V, hV⟩ : ∃ V, V = wdV := ⟨_, rfl⟩
  have HIX : Hid (∀ (i : Nat) (h : i < wdL.length) (wx : World), (Instr.index 73 (.agg V) (.int .i64 i)).run Tryd.prog wx = .ok (.string ⟨wdL[i].toArray⟩) wx) := fun i h wx => by rw [hV]; exact idx_words wx i h
  have hV2 : V = #[.string ⟨#[80, 65, 84, 84, 69, 82, 78]⟩, .string ⟨#[83, 69, 81]⟩, .string ⟨#[80, 65, 82, 84, 73, 84, 73, 79, 78]⟩, .string ⟨#[66, 89]⟩, .string ⟨#[87, 72, 69, 82, 69]⟩, .string ⟨#[87, 73, 84, 72, 73, 78]⟩, .string ⟨#[82, 69, 84, 85, 82, 78]⟩, .string ⟨#[65, 78, 68]⟩, .string ⟨#[79, 82]⟩, .string ⟨#[78, 79, 84]⟩, .string ⟨#[84, 82, 85, 69]⟩, .string ⟨#[70, 65, 76, 83, 69]⟩, .string ⟨#[84, 89, 80, 69]⟩, .string ⟨#[73, 78, 84]⟩, .string ⟨#[83, 84, 82]⟩, .string ⟨#[66, 79, 79, 76]⟩] := hV
  rw [← hV2]
  clear hV hV2 h c0 c1 c2 c3 c4 c5 c6 c7 c8 c9 c10 c11 c12 c13 c14 c15
  go_wp2
  go_loopw [6] (fun iv wr => ∃ i : Nat, iv = .int .i64 i ∧ i ≤ 16 ∧ inL (wdL.take i) s.data.toList = false ∧ wr = w) (fun iv _ => 16 - (intOf iv).toNat)
  case atStart => exact ⟨0, rfl, Nat.zero_le _, rfl, rfl⟩
  case round =>
    obtain ⟨i, rfl, hi, hno, rfl⟩ := hrel
    have HNO := Lib.hid hno
    clear hno
    by_cases hlt : i < 16
    · have v1 : (i : Int) < 16 := by omega
      have hiL : i < wdL.length := hlt
      have hix := HIX.out i hiL wr
      obtain ⟨x, hx⟩ : ∃ x : ByteArray, x = ⟨wdL[i].toArray⟩ := ⟨_, rfl⟩
      rw [← hx] at hix
      have hxl : x.data.toList = wdL[i] := by rw [hx]
      have htl : x.toList = wdL[i] := by rw [ByteArray.toList_eq, hxl]
      have hsl : s.toList = s.data.toList := ByteArray.toList_eq _
      have hnext : inL (wdL.take (i + 1)) s.data.toList = (x.toList == s.toList) := by
        rw [List.take_succ_eq_append_getElem hiL]
        have := HNO.out
        unfold inL at this ⊢
        rw [List.any_append, this, Bool.false_or, htl, hsl]
        simp
      have HNX := Lib.hid hnext
      clear hx hxl htl hsl hnext
      obtain ⟨b, hb⟩ : ∃ b, (x.toList == s.toList) = b := ⟨_, rfl⟩
      rw [hb] at HNX
      cases b
      · go_wp2
        go_roundw
        case rel => exact ⟨i + 1, by go_num, by omega, HNX.out, by first | rfl | trivial⟩
        case measure => simp [intOf]; omega
      · have hyes : inL wdL s.data.toList = true := by
          have := HNX.out
          unfold inL at this ⊢
          rw [List.any_eq_true] at this ⊢
          obtain ⟨y, hy, he⟩ := this
          exact ⟨y, List.mem_of_mem_take hy, he⟩
        have HY := Lib.hid hyes
        clear hyes
        go_wp2
        go_ret
        exact ⟨by rw [HY.out]; rfl, by first | rfl | trivial⟩
    · have hni : i = 16 := by omega
      subst hni
      have HNO2 : Hid (inL wdL s.data.toList = false) := HNO.out
      go_wp2
      go_ret
      exact ⟨by rw [HNO2.out]; rfl, by first | rfl | trivial⟩
end Go.Proofs.YtdafnkfnaknoiaaDoor
namespace Go.Proofs.YtdafnkfnaknoiaaDoor
open Go Go.RowKit
set_option maxHeartbeats 8000000
set_option linter.unusedVariables false
set_option linter.unusedSimpArgs false
theorem scanT_len : ∀ (k p : Nat) (R : List Tk) (l : List UInt8) (M : List Tk), l.length ≤ k → scanT p R l = .ok M → M.length ≤ R.length + l.length + 1
  | k, p, R, l, M, hk, h => by
    rw [scanT_eq] at h
    rcases hs : stepL l p with _ | n | ⟨tk, s, n⟩ | ⟨E', q'⟩
    · rw [hs] at h
      simp only [Sc.ok.injEq] at h
      subst h
      simp
    · rw [hs] at h
      have hn := stepL_skip hs
      match k, hk with
      | 0, hk => omega
      | k + 1, hk =>
        have := scanT_len k _ _ _ M (by rw [List.length_drop]; omega) h
        rw [List.length_drop] at this
        omega
    · rw [hs] at h
      have hn := stepL_tok hs
      match k, hk with
      | 0, hk => omega
      | k + 1, hk =>
        have := scanT_len k _ _ _ M (by rw [List.length_drop]; omega) h
        rw [List.length_drop, List.length_append, List.length_singleton] at this
        omega
    · rw [hs] at h
      cases h
theorem scanL_len {l : List UInt8} {M : List Tk} (h : scanL l = .ok M) : M.length ≤ 4097 := by
  unfold scanL at h
  split at h
  · cases h
  · have := scanT_len _ _ _ _ _ (Nat.le_refl _) h
    simp at this
    omega
/-- what holds of the world at each call -/
structure In (w0 w : World) (hb : Nat) : Prop where
  blw : Below w0.heap.size w0 w
  hand : ∃ p C xs, Hd w w0.heap.size hb p C xs
theorem In.below {w0 w w' : World} {hb : Nat} (h : In w0 w hb) (hx : Below w.heap.size w w') : In w0 w' hb := by
  obtain ⟨p, C, xs, hd⟩ := h.hand
  exact ⟨h.blw.trans (hx.mono h.blw.size), p, C, xs, hd.below hx⟩
theorem plays_scan (w0 w : World) (hb : Nat) (T : ByteArray) (v : Value) (he : Errs w0) (hin : In w0 w hb) (hT : T.size ≤ 140737488355328) :
    Calls Tryd.prog 20 #[.pointer (some ⟨hb, 0, none⟩), .agg #[.int .i64 1, .string T, v]] w fun e w' => e = .returned (.bool true) ∧ In w0 w' hb := by
  have HIN := Lib.hid hin
  have HS1 : Hid (∀ wx, Below w.heap.size w wx → Calls Tryd.prog 9 #[.string T] wx (ScanPost (scanL T.data.toList) wx)) := fun wx hx => scan_any T wx (he.below (hin.blw.trans (hx.mono hin.blw.size)))
  have HS2 : Hid (∀ wx, Calls Tryd.prog 25 #[.string T] wx (ScanPost (scanL T.data.toList) wx)) := fun wx => refScan_any T hT wx
  have HB0 : Hid (∀ o, Below w.heap.size w (w.alloc o)) := fun o => (Below.refl _ _).alloc (Nat.le_refl _) o
  have hlen := fun M => scanL_len (l := T.data.toList) (M := M)
  obtain ⟨X, hX⟩ : ∃ X, X = scanL T.data.toList := ⟨_, rfl⟩
  rw [← hX] at HS1 HS2 hlen
  have HLEN := Lib.hid hlen
  clear hX hin he hlen
  go_enter Tryd.func20, Tryd.ntmps20
  go_wp2_with fail
  refine (HS1.out _ (HB0.out _)).mono ?_
  rintro e w1 ⟨hb1, h1⟩
  have f1 : w1.cell? ⟨w.heap.size, 1, none⟩ = some (.string T) := (hb1.cell (p := ⟨w.heap.size, 1, none⟩) (by simp)).trans (by simp [go_sem])
  have hB1 : Below w.heap.size w w1 := (HB0.out _).trans (hb1.mono (by simp))
  have HB1 := Lib.hid hB1
  rcases X with ⟨E, q⟩ | M
  · obtain ⟨hE, rfl⟩ := h1
    clear hb1 hB1 hE
    go_wp2_with fail
    refine (HS2.out _).mono ?_
    rintro e w2 ⟨hb2, hE2, rfl⟩
    have HB2 : Hid (Below w.heap.size w w2) := HB1.out.trans (hb2.mono HB1.out.size)
    have HEQ : Hid (∀ wx, Calls Tryd.prog 19 #[.slice none 0 0, .slice none 0 0] wx fun e w' => e = .returned (.bool true) ∧ Below wx.heap.size wx w') := fun wx => eqToks_same none none 0 0 [] wx (fun i h => absurd h (Nat.not_lt_zero _)) (fun i h => absurd h (Nat.not_lt_zero _)) (by simp)
    clear hb2 hE2
    go_wp2_with (go_at_call 19; refine (HEQ.out _).mono ?_; rintro e w3 ⟨rfl, hb3⟩)
    have HB3 : Hid (Below w.heap.size w w3) := HB2.out.trans (hb3.mono HB2.out.size)
    go_ret
    exact ⟨rfl, HIN.out.below HB3.out⟩
  · obtain ⟨v1, rfl, ho1⟩ := h1
    obtain ⟨q1, d1, rfl, ht1⟩ := own_tokAt ho1
    have HO1 := Lib.hid ht1
    have hml := HLEN.out M rfl
    have hm2 : (M.map toT).length = M.length := by simp
    clear hb1 hB1 ho1 ht1
    go_wp2_with fail
    refine (HS2.out _).mono ?_
    rintro e w2 ⟨hb2, v2, rfl, ho2⟩
    obtain ⟨q2, d2, rfl, ht2⟩ := own_tokAt ho2
    have HB2 : Hid (Below w.heap.size w w2) := HB1.out.trans (hb2.mono HB1.out.size)
    have HEQ : Hid (Calls Tryd.prog 19 #[.slice q1 M.length d1, .slice q2 M.length d2] w2 fun e w' => e = .returned (.bool true) ∧ Below w2.heap.size w2 w') := by
      have h := eqToks_same q1 q2 d1 d2 (M.map toT) w2 (HO1.out.below hb2) ht2 (by omega)
      rw [hm2] at h
      exact h
    clear hb2 ho2 ht2 hm2 hml
    go_wp2_with (go_at_call 19; refine HEQ.out.mono ?_; rintro e w3 ⟨rfl, hb3⟩)
    have HB3 : Hid (Below w.heap.size w w3) := HB2.out.trans (hb3.mono HB2.out.size)
    go_ret
    exact ⟨rfl, HIN.out.below HB3.out⟩
theorem held_below {a w : World} {A : Prop} (h : Below a.heap.size a w ∧ A) : Below a.heap.size a w := h.1
theorem held_on {a w w' : World} {A : Prop} (h : Below a.heap.size a w ∧ A) (hb : Below w.heap.size w w') : Below a.heap.size a w' := h.1.trans (hb.mono h.1.size)
theorem plays_word (w0 w : World) (hb : Nat) (T : ByteArray) (v : Value) (hw : Wd w0) (hin : In w0 w hb) :
    Calls Tryd.prog 20 #[.pointer (some ⟨hb, 0, none⟩), .agg #[.int .i64 3, .string T, v]] w fun e w' => e = .returned (.bool true) ∧ In w0 w' hb := by
  have HIN := Lib.hid hin
  have HS1 : Hid (∀ wx, Below w.heap.size w wx → Calls Tryd.prog 24 #[.string T] wx fun e w' => e = .returned (.bool (inL wdL T.data.toList)) ∧ w' = wx) := fun wx hx => word_all T wx (hw.below (hin.blw.trans (hx.mono hin.blw.size)))
  have HS2 : Hid (∀ wx, Calls Tryd.prog 29 #[.string T] wx fun e w' => e = .returned (.bool (inL wdL T.data.toList)) ∧ Below wx.heap.size wx w') := fun wx => refWord_r T wx
  have HB0 : Hid (∀ o, Below w.heap.size w (w.alloc o)) := fun o => (Below.refl _ _).alloc (Nat.le_refl _) o
  obtain ⟨X, hX⟩ : ∃ X, X = inL wdL T.data.toList := ⟨_, rfl⟩
  rw [← hX] at HS1 HS2
  clear hX hin hw
  go_enter Tryd.func20, Tryd.ntmps20
  go_wp2_with fail
  obtain ⟨wa, hwa⟩ : ∃ wa, wa = w.alloc (.cells #[.int .i64 3, .string T, v] 54) := ⟨_, rfl⟩
  obtain ⟨N, hN⟩ : ∃ N, N = w.heap.size := ⟨_, rfl⟩
  have hBa : Below w.heap.size w wa := by rw [hwa]; exact HB0.out _
  have c1 : wa.cell? ⟨N, 1, none⟩ = some (.string T) := by rw [hwa, hN]; simp [go_sem]
  have hNa := lt_of_cell c1
  have HS : Hid (∀ wx, Below wa.heap.size wa wx → Below wa.heap.size wa wx ∧ wx.cell? ⟨N, 1, none⟩ = some (.string T)) := fun wx hx => ⟨hx, (hx.cell (p := ⟨N, 1, none⟩) hNa).trans c1⟩
  have HBA := Lib.hid hBa
  have HS3 : Hid (∀ wx, Below wa.heap.size wa wx → Calls Tryd.prog 24 #[.string T] wx fun e w' => e = .returned (.bool X) ∧ Below wx.heap.size wx w') := fun wx hx => (HS1.out wx (hBa.trans (hx.mono hBa.size))).mono fun e w' ⟨h1, h2⟩ => ⟨h1, h2 ▸ Below.refl _ _⟩
  rw [← hwa, ← hN]
  clear hwa hN hBa HS1
  go_region_held3 (fun wx => Below wa.heap.size wa wx ∧ wx.cell? ⟨N, 1, none⟩ = some (.string T))
    ((refine HS.out _ ?_; first | assumption | exact Below.refl _ _ | exact (Below.refl _ _).drew | exact held_below (by assumption)))
    (first | (go_at_call 24; refine (HS3.out _ (held_below (by assumption))).mono ?_; rintro e w1 ⟨rfl, hb1⟩; have hB1 : Below wa.heap.size wa w1 := held_on (by assumption) hb1) | (go_at_call 29; refine (HS2.out _).mono ?_; rintro e w1 ⟨rfl, hb1⟩; have hB1 : Below wa.heap.size wa w1 := held_on (by assumption) hb1))
  all_goals
    have hBW : Below w.heap.size w w1 := HBA.out.trans (hB1.mono HBA.out.size)
    go_wp2
    go_ret
    exact ⟨rfl, HIN.out.below hBW⟩
theorem plays_other (w0 w : World) (hb : Nat) (k : Int) (T : ByteArray) (v : Value) (hin : In w0 w hb) (k1 : k ≠ 1) (k2 : k ≠ 2) (k3 : k ≠ 3) :
    Calls Tryd.prog 20 #[.pointer (some ⟨hb, 0, none⟩), .agg #[.int .i64 k, .string T, v]] w fun e w' => e = .returned (.bool true) ∧ In w0 w' hb := by
  have HIN := Lib.hid hin
  have HB0 : Hid (∀ o, Below w.heap.size w (w.alloc o)) := fun o => (Below.refl _ _).alloc (Nat.le_refl _) o
  have e1 : (k == 1) = false := by simpa using k1
  have e2 : (k == 2) = false := by simpa using k2
  have e3 : (k == 3) = false := by simpa using k3
  clear hin k1 k2 k3
  go_enter Tryd.func20, Tryd.ntmps20
  go_wp2
  go_ret
  exact ⟨rfl, HIN.out.below (HB0.out _)⟩
theorem TokAt.low {w0 w : World} {p : Option Addr} {L : List Tok3} (h : TokAt w0 p L) (hb : Below w0.heap.size w0 w) : TokAt w p L := h.below hb
theorem tokAt_low {w0 : World} {p : Option Addr} {L : List Tok3} (h : TokAt w0 p L) (hne : L ≠ []) : ∀ a, p = some a → a.block < w0.heap.size := by
  intro a ha
  have h0 : 0 < L.length := List.length_pos_iff.2 hne
  obtain ⟨b, o, e, c0, _⟩ := h 0 h0
  rw [ha] at e
  cases e
  exact lt_of_cell c0
theorem marked_tokAt {w : World} {B hb g C : Nat} {xs : List Value} {L : List Tok3} {i : Nat} (h : Hd w B hb (some ⟨g, 0, none⟩) C xs) (hm : Marked L C xs i) : TokAt w (some ⟨g, 0, none⟩) L := fun j hj => by
  obtain ⟨a0, a1, a2⟩ := hm.toks j hj
  refine ⟨g, 0, rfl, ?_, ?_, ?_⟩
  · rw [Nat.zero_add]; exact own3_cell h.own a0
  · rw [Nat.zero_add]; exact own3_cell h.own a1
  · rw [Nat.zero_add]; exact own3_cell h.own a2
theorem plays_spell (w0 w : World) (hb : Nat) (T : ByteArray) (p : Option Addr) (c : Nat) (L : List Tok3) (he : Errs w0) (hin : In w0 w hb) (hL : TokAt w0 p L) (hlow : ∀ i, i < L.length → ∀ a, p = some a → a.block < w0.heap.size) (hp : p = none → c = 0 ∧ L = []) (hLen : L.length ≤ 1048576) (hSz : ∀ t ∈ L, t.2.1.size ≤ 140737488355328) :
    Calls Tryd.prog 20 #[.pointer (some ⟨hb, 0, none⟩), .agg #[.int .i64 2, .string T, .slice p L.length c]] w fun e w' => e = .returned (.bool true) ∧ In w0 w' hb := by
  have HIN := Lib.hid hin
  obtain ⟨B, hB⟩ : ∃ B, B = w0.heap.size := ⟨_, rfl⟩
  obtain ⟨n, hn⟩ : ∃ n, n = L.length := ⟨_, rfl⟩
  obtain ⟨S, hS⟩ : ∃ S : ByteArray, S = ⟨(speltT L).toArray⟩ := ⟨_, rfl⟩
  obtain ⟨E, hE⟩ : ∃ E, E = speltE L := ⟨_, rfl⟩
  have HLI : Hid (∀ wx, In w0 wx hb → Calls Tryd.prog 26 #[.pointer (some ⟨hb, 0, none⟩), .slice p n c] wx fun e w' => ∃ g C xs, e = .returned (.slice (some ⟨g, 0, none⟩) n C) ∧ Hd w' B hb (some ⟨g, 0, none⟩) C xs ∧ Marked L C xs C ∧ L.length ≤ C ∧ C ≤ maxLen ∧ Below w0.heap.size w0 w' ∧ (∀ (b : Nat) (cs : Array Value), wx.heap[b]? = some (Obj.cells cs 54 (0, 0)) → w'.heap[b]? = some (Obj.cells cs 54 (0, 0)))) := fun wx hx => by
    obtain ⟨p0, C0, xs0, hd⟩ := hx.hand
    rw [hn, hB]
    refine (list_any w0.heap.size hb p0 C0 xs0 p c L wx hd hx.blw.size (hL.low hx.blw) hlow hp hLen).mono ?_
    rintro e w' ⟨g, C, xs, rfl, h1, h2, h3, h4, h5, h6⟩
    refine ⟨g, C, xs, rfl, h1, h2, h3, h4, hx.blw.trans h5, fun b cs hb54 => ?_⟩
    refine ((h6.2 b (Array.getElem?_eq_some_iff.1 hb54).1 (fun e => ?_) (fun e => ?_)).1).trans hb54
    · subst e
      have := hd.blk
      rw [hb54] at this
      simp at this
    · rcases hd.own.2 with ⟨e1, _⟩ | ⟨g', cap, cur, e1, _, hg, _⟩
      · rw [e1] at e
        cases e
      · rw [e1] at e
        simp only [Value.ownBlock, Option.some.injEq] at e
        subst e
        rw [hg] at hb54
        simp at hb54
  have HSP : Hid (∀ wx q d, Below w0.heap.size w0 wx → TokAt wx q L → Calls Tryd.prog 11 #[.slice q n d] wx fun e w' => e = .returned (.tuple #[.string S, .int .i64 E]) ∧ Below wx.heap.size wx w') := fun wx q d hx ht => by
    rw [hn, hS, hE]
    exact spell_all q d L wx (he.below hx) ht (by omega)
  have HRS : Hid (∀ wx, Below w0.heap.size w0 wx → Calls Tryd.prog 27 #[.slice p n c] wx fun e w' => e = .returned (.tuple #[.string S, .int .i64 E]) ∧ Below wx.heap.size wx w') := fun wx hx => by
    rw [hn, hS, hE]
    exact refSpell_all p c L wx (hL.low hx) (by omega) hSz
  have HKE : Hid (∀ wx g C xs, Below w0.heap.size w0 wx → Hd wx B hb (some ⟨g, 0, none⟩) C xs → Marked L C xs C → L.length ≤ C → C ≤ maxLen → Calls Tryd.prog 28 #[.pointer (some ⟨hb, 0, none⟩), .slice p n c] wx fun e w' => ∃ xs, e = .returned (.bool true) ∧ Hd w' B hb (some ⟨g, 0, none⟩) C xs ∧ Below w0.heap.size w0 w') := fun wx g C xs hx hd hm h1 h2 => by
    subst hB
    rw [hn]
    refine (kept_any w0.heap.size hb g C xs p c L wx hd hx.size hm h2 (hL.low hx) hlow hLen h1).mono ?_
    rintro e w' ⟨xs2, rfl, h3, h4⟩
    exact ⟨xs2, rfl, h3, hx.trans h4⟩
  have HB0 : Hid (∀ o, Below w.heap.size w (w.alloc o)) := fun o => (Below.refl _ _).alloc (Nat.le_refl _) o
  have HBe := Lib.hid hB
  rw [← hn]
  clear he hin hL hlow hp hLen hSz hB hn hS hE
  go_enter Tryd.func20, Tryd.ntmps20
  go_wp2_with fail
  obtain ⟨N, hN⟩ : ∃ N, N = w.heap.size := ⟨_, rfl⟩
  have hk54 : (w.alloc (.cells #[.int .i64 2, .string T, .slice p n c] 54)).heap[N]? = some (.cells #[.int .i64 2, .string T, .slice p n c] 54 (0, 0)) := by rw [hN]; exact heap_alloc_new w _
  have hInA : In w0 (w.alloc (.cells #[.int .i64 2, .string T, .slice p n c] 54)) hb := HIN.out.below (HB0.out _)
  rw [← hN]
  clear hN
  refine (HLI.out _ hInA).mono ?_
  rintro e w1 ⟨g, C, xs, rfl, h1, h2, h3, h4, h5, h6⟩
  have hk1 := h6 N _ hk54
  have HMK := Lib.hid h2
  have HH1 := Lib.hid h1
  have HB1 := Lib.hid h5
  have HC1 := Lib.hid h3
  have HC2 := Lib.hid h4
  have HK1 := Lib.hid hk1
  have HT1 : Hid (TokAt w1 (some ⟨g, 0, none⟩) L) := marked_tokAt h1 h2
  clear h1 h2 h3 h4 h5 h6 hk1 hk54 hInA
  go_wp2_with fail
  refine (HSP.out _ _ _ HB1.out HT1.out).mono ?_
  rintro e w2 ⟨rfl, hb2⟩
  have hk2 : w2.heap[N]? = some (.cells #[.int .i64 2, .string T, .slice p n c] 54 (0, 0)) := (hb2.block N (Array.getElem?_eq_some_iff.1 HK1.out).1).trans HK1.out
  have c2 : w2.cell? ⟨N, 2, none⟩ = some (.slice p n c) := by simp [World.cell?, hk2]
  have HB2 : Hid (Below w0.heap.size w0 w2) := HB1.out.trans (hb2.mono HB1.out.size)
  have HH2 := Lib.hid (HH1.out.below hb2)
  have HK2 := Lib.hid hk2
  clear hb2 hk2
  go_wp2_with fail
  refine (HRS.out _ HB2.out).mono ?_
  rintro e w3 ⟨rfl, hb3⟩
  have hk3 : w3.heap[N]? = some (.cells #[.int .i64 2, .string T, .slice p n c] 54 (0, 0)) := (hb3.block N (Array.getElem?_eq_some_iff.1 HK2.out).1).trans HK2.out
  have d2 : w3.cell? ⟨N, 2, none⟩ = some (.slice p n c) := by simp [World.cell?, hk3]
  have HB3 : Hid (Below w0.heap.size w0 w3) := HB2.out.trans (hb3.mono HB2.out.size)
  have HH3 := Lib.hid (HH2.out.below hb3)
  clear hb3 hk3 c2
  go_wp2_with fail
  refine (HKE.out _ g C xs HB3.out HH3.out HMK.out HC1.out HC2.out).mono ?_
  rintro e w4 ⟨xs4, rfl, h4, h5⟩
  have HH4 : Hid (Hd w4 w0.heap.size hb (some ⟨g, 0, none⟩) C xs4) := by show Hd _ _ _ _ _ _; rw [← show B = _ from HBe.out]; exact h4
  have HB4 := Lib.hid h5
  have hSS : (S.toList == S.toList) = true := by simp
  clear h4 h5 d2
  go_wp2
  go_ret
  exact ⟨rfl, HB4.out, _, _, _, HH4.out⟩
/-- one call of the laws is as the document says -/
theorem plays_any (w0 w : World) (hb : Nat) (k : Int) (T : ByteArray) (p : Option Addr) (c : Nat) (L : List Tok3) (he : Errs w0) (hw : Wd w0) (hin : In w0 w hb) (hT : T.size ≤ 140737488355328) (hL : TokAt w0 p L) (hp : p = none → c = 0 ∧ L = []) (hLen : L.length ≤ 1048576) (hSz : ∀ t ∈ L, t.2.1.size ≤ 140737488355328) :
    Calls Tryd.prog 20 #[.pointer (some ⟨hb, 0, none⟩), .agg #[.int .i64 k, .string T, .slice p L.length c]] w fun e w' => e = .returned (.bool true) ∧ In w0 w' hb := by
  by_cases k1 : k = 1
  · subst k1
    exact plays_scan w0 w hb T _ he hin hT
  by_cases k2 : k = 2
  · subst k2
    exact plays_spell w0 w hb T p c L he hin hL (fun i hi => tokAt_low hL (fun e => by rw [e] at hi; exact absurd hi (Nat.not_lt_zero _))) hp hLen hSz
  by_cases k3 : k = 3
  · subst k3
    exact plays_word w0 w hb T _ hw hin
  exact plays_other w0 w hb k T _ hin k1 k2 k3
end Go.Proofs.YtdafnkfnaknoiaaDoor
namespace Go.Proofs.YtdafnkfnaknoiaaDoor
open Go Go.RowKit
set_option maxHeartbeats 8000000
set_option linter.unusedVariables false
set_option linter.unusedSimpArgs false
def firstB : List UInt8 := [97, 46, 98, 32, 62, 61, 32, 49, 50]
theorem first_scan : scanL firstB = .ok [(1, [97], 0), (4, [46], 1), (1, [98], 2), (4, [62, 61], 4), (2, [49, 50], 7), (5, [], 9)] := by
  rw [scanL_small (by decide)]
  have s0 : stepL firstB 0 = .tok 1 [97] 1 := by kernel_rfl
  have s1 : stepL (firstB.drop 1) 1 = .tok 4 [46] 1 := by kernel_rfl
  have s2 : stepL (firstB.drop 2) 2 = .tok 1 [98] 1 := by kernel_rfl
  have s3 : stepL (firstB.drop 3) 3 = .skip 1 := by kernel_rfl
  have s4 : stepL (firstB.drop 4) 4 = .tok 4 [62, 61] 2 := by kernel_rfl
  have s6 : stepL (firstB.drop 6) 6 = .skip 1 := by kernel_rfl
  have s7 : stepL (firstB.drop 7) 7 = .tok 2 [49, 50] 2 := by
    show stepL [49, 50] 7 = _
    rw [step_numR [50] 7 (by decide) true (by kernel_rfl) false (by rfl), if_pos ⟨rfl, rfl⟩]
    kernel_rfl
  rw [scanT_eq, s0]
  simp only
  rw [scanT_eq, s1]
  simp only [List.drop_drop]
  rw [scanT_eq, s2]
  simp only [List.drop_drop]
  rw [scanT_eq, s3]
  simp only [List.drop_drop]
  rw [scanT_eq, s4]
  simp only [List.drop_drop]
  rw [scanT_eq, s6]
  simp only [List.drop_drop]
  rw [scanT_eq, s7]
  simp only [List.drop_drop]
  rw [show firstB.drop (7 + 2) = [] from rfl, scan_nil]
  rfl
def secL : List Tok3 := [(4, ⟨#[45]⟩, 0), (4, ⟨#[45]⟩, 0), (2, ⟨#[53]⟩, 0)]
theorem may4 : mayB 4 ⟨#[45]⟩ = true := (canB_ok (l := true) (show canB 4 (⟨#[45]⟩ : ByteArray).data.toList true = true by kernel_rfl)).1
theorem may2 : mayB 2 ⟨#[53]⟩ = true := (canB_ok (l := true) (show canB 2 (⟨#[53]⟩ : ByteArray).data.toList true = true by kernel_rfl)).1
theorem sec_spelt : speltT secL = [45, 32, 45, 32, 53] ∧ speltE secL = 0 := by
  have h : allMay secL = true := by
    unfold secL allMay allMay allMay allMay
    simp only
    rw [may4, may2]
    rfl
  have e : outL ((noEnd secL).map spl3) = [45, 32, 45, 32, 53] := by kernel_rfl
  have := spelt_ok h (by rw [e]; decide)
  rw [e] at this
  exact this
theorem sec_at (W : World) : TokAt (W.alloc (.cells #[.int .i64 4, .string ⟨#[45]⟩, .int .i64 0, .int .i64 4, .string ⟨#[45]⟩, .int .i64 0, .int .i64 2, .string ⟨#[53]⟩, .int .i64 0] 28)) (some ⟨W.heap.size, 0, none⟩) secL := fun i hi => by
  have hq : i = 0 ∨ i = 1 ∨ i = 2 := by have : i < 3 := hi; omega
  rcases hq with rfl | rfl | rfl
  · exact ⟨_, _, rfl, by simp [go_sem, secL], by simp [go_sem, secL], by simp [go_sem, secL]⟩
  · exact ⟨_, _, rfl, by simp [go_sem, secL], by simp [go_sem, secL], by simp [go_sem, secL]⟩
  · exact ⟨_, _, rfl, by simp [go_sem, secL], by simp [go_sem, secL], by simp [go_sem, secL]⟩
theorem in_seq : inL wdL [83, 69, 81] = true := by decide
theorem in_no : inL wdL [115, 101, 113] = false := by decide
attribute [local go_sem ↓] run_eql_T run_neq_T
set_option maxRecDepth 100000 in
theorem begun_any (w : World) (he : Errs w) (hw : Wd w) : Calls Tryd.prog 14 #[] w fun e w' => e = .returned (.bool true) ∧ Below w.heap.size w w' := by
  have HSC : Hid (∀ wx, Below w.heap.size w wx → Calls Tryd.prog 9 #[.string ⟨#[97, 46, 98, 32, 62, 61, 32, 49, 50]⟩] wx fun e w' => (∃ q d, e = .returned (.tuple #[.slice q 6 d, .int .i64 0, .int .i64 0]) ∧ TokAt w' q ([(1, [97], 0), (4, [46], 1), (1, [98], 2), (4, [62, 61], 4), (2, [49, 50], 7), (5, [], 9)].map toT)) ∧ Below wx.heap.size wx w') := fun wx hx => by
    refine (scan_any ⟨#[97, 46, 98, 32, 62, 61, 32, 49, 50]⟩ wx (he.below hx)).mono ?_
    rintro e w' ⟨hb, h⟩
    rw [show (⟨#[97, 46, 98, 32, 62, 61, 32, 49, 50]⟩ : ByteArray).data.toList = firstB from rfl, first_scan] at h
    obtain ⟨v, rfl, ho⟩ := h
    obtain ⟨q, d, rfl, ht⟩ := own_tokAt ho
    exact ⟨⟨q, d, rfl, ht⟩, hb⟩
  have HSP : Hid (∀ wx q d, Below w.heap.size w wx → TokAt wx q secL → Calls Tryd.prog 11 #[.slice q 3 d] wx fun e w' => e = .returned (.tuple #[.string ⟨#[45, 32, 45, 32, 53]⟩, .int .i64 0]) ∧ Below wx.heap.size wx w') := fun wx q d hx ht => by
    have h := spell_all q d secL wx (he.below hx) ht (by decide)
    rw [sec_spelt.1, sec_spelt.2] at h
    exact h
  have HW1 : Hid (∀ wx, Below w.heap.size w wx → Calls Tryd.prog 24 #[.string ⟨#[83, 69, 81]⟩] wx fun e w' => e = .returned (.bool true) ∧ Below wx.heap.size wx w') := fun wx hx => by
    refine (word_all ⟨#[83, 69, 81]⟩ wx (hw.below hx)).mono ?_
    rintro e w' ⟨rfl, rfl⟩
    exact ⟨by rw [show (⟨#[83, 69, 81]⟩ : ByteArray).data.toList = [83, 69, 81] from rfl, in_seq], Below.refl _ _⟩
  have HW2 : Hid (∀ wx, Below w.heap.size w wx → Calls Tryd.prog 24 #[.string ⟨#[115, 101, 113]⟩] wx fun e w' => e = .returned (.bool false) ∧ Below wx.heap.size wx w') := fun wx hx => by
    refine (word_all ⟨#[115, 101, 113]⟩ wx (hw.below hx)).mono ?_
    rintro e w' ⟨rfl, rfl⟩
    exact ⟨by rw [show (⟨#[115, 101, 113]⟩ : ByteArray).data.toList = [115, 101, 113] from rfl, in_no], Below.refl _ _⟩
  have HB0 : Hid (Below w.heap.size w w) := Below.refl _ _
  clear he hw
  go_enter Tryd.func14, Tryd.ntmps14
  go_wp2_with fail
  refine (HSC.out _ HB0.out).mono ?_
  rintro e w1 ⟨⟨q, d, rfl, ht⟩, hb1⟩
  have HT := Lib.hid ht
  have HB1 := Lib.hid hb1
  have hB1 : ∀ o, Below w.heap.size w (w1.alloc o) := fun o => HB1.out.alloc HB1.out.size o
  have HBA := Lib.hid hB1
  clear ht hb1 hB1
  go_wp2_with fail
  refine (HSP.out _ _ _ (HBA.out _) (sec_at w1)).mono ?_
  rintro e w2 ⟨rfl, hb2⟩
  have hB2 : Below w.heap.size w w2 := (HBA.out _).trans (hb2.mono (HBA.out _).size)
  have hT2 := HT.out.below (((Below.refl w1.heap.size w1).alloc (Nat.le_refl _) _).trans (hb2.mono (by simp)))
  obtain ⟨b, o, rfl, f0, f1, f2⟩ := hT2 3 (by decide)
  replace f0 : w2.cell? ⟨b, o + 9, none⟩ = some (.int .i64 4) := f0
  replace f1 : w2.cell? ⟨b, o + 9 + 1, none⟩ = some (.string ⟨#[62, 61]⟩) := f1
  replace f2 : w2.cell? ⟨b, o + 9 + 2, none⟩ = some (.int .i64 4) := f2
  have HB2 := Lib.hid hB2
  have hte : teq 4 ⟨#[62, 61]⟩ 4 4 ⟨#[62, 61]⟩ 4 = true := teq_self _ _ _
  clear hb2 hB2 hT2
  go_wp2_with fail
  refine (HW1.out _ HB2.out).mono ?_
  rintro e w3 ⟨rfl, hb3⟩
  have HB3 : Hid (Below w.heap.size w w3) := HB2.out.trans (hb3.mono HB2.out.size)
  clear f0 f1 f2 hb3
  go_wp2_with fail
  refine (HW2.out _ HB3.out).mono ?_
  rintro e w4 ⟨rfl, hb4⟩
  have HB4 : Hid (Below w.heap.size w w4) := HB3.out.trans (hb4.mono HB3.out.size)
  clear hb4
  go_wp2
  go_ret
  exact ⟨rfl, HB4.out⟩
end Go.Proofs.YtdafnkfnaknoiaaDoor
