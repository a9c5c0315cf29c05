/- The walk of the law ValueRound. -/
import Derived.Test.YtcjibjiojgikjaaDoorR1
import Derived.Test.YtcjibjiojgikjaaDoorO1
import Derived.Test.YtcjibjiojgikjaaDoorV2
import Derived.WalkKit
import Derived.WalkSpells
import Derived.WalkLawsBesides
import Derived.Lib.Hide
import Derived.LoopN
import Derived.LoopTactic
import Derived.Deep.DeepCutAuto
import Derived.Deep.CutRange
namespace Go.Proofs.YtcjibjiojgikjaaDoor.lawRound
open Go Go.ChangeShapes Go.WideShapes Go.ChangeAt Go.RowKit
set_option maxHeartbeats 1000000
set_option linter.unusedVariables false
set_option linter.unusedSimpArgs false
attribute [local go_sem ↓] run_eql_V run_neq_V
theorem read_back (k n : Int) (s : ByteArray) (b : Bool) (hv : valid k n s b = true) (hn : I64 n) (sh : ByteArray) (hs : sh.data.toList = showT k n s b) (w0 w : World) (hw : Ok w0 w) :
    Calls Tryd.prog 14 #[.string sh] w fun e w' => e = .returned (.tuple #[.agg #[.int .i64 k, .int .i64 n, .string s, .bool b], .int .i64 0]) ∧ Ok w0 w' := by
  refine (read_any sh w hw.inv.errs hw.inv.pow).mono ?_
  rintro e w' ⟨K, N, S, T, E, rfl, hb, h | h⟩
  · obtain ⟨rfl, hv', hn', he⟩ := h
    obtain ⟨rfl, rfl, rfl, rfl⟩ := showT_inj hv' hv hn' hn (he.trans hs)
    exact ⟨rfl, hw.on hb⟩
  · obtain ⟨rfl, _, _, _, _, h⟩ := h
    exact absurd hs (h k n s b hn hv)
theorem show_ok (k n : Int) (s : ByteArray) (b : Bool) (hn : I64 n) (sh : ByteArray) (hs : sh.data.toList = showT k n s b) (E : Int) (hE : E = showE k n s b) (w0 w : World) (hw : Ok w0 w) :
    Calls Tryd.prog 12 #[.agg #[.int .i64 k, .int .i64 n, .string s, .bool b]] w fun e w' => e = .returned (.tuple #[.string sh, .int .i64 E]) ∧ Ok w0 w' :=
  (show_sh k n s b hn sh hs E hE w hw.inv.pow).mono fun _ _ ⟨h1, h2⟩ => ⟨h1, hw.on h2⟩
theorem read_ok (t : ByteArray) (w0 w : World) (hw : Ok w0 w) :
    Calls Tryd.prog 14 #[.string t] w fun e w' => ∃ (K N : Int) (S : ByteArray) (T : Bool) (E : Int), e = .returned (.tuple #[.agg #[.int .i64 K, .int .i64 N, .string S, .bool T], .int .i64 E]) ∧ Ok w0 w' ∧ ((E = 0 ∧ 0 = showE K N S T ∧ I64 N ∧ t.data.toList = showT K N S T) ∨ E = 12) :=
  (read_any t w hw.inv.errs hw.inv.pow).mono fun _ _ ⟨K, N, S, T, E, h1, h2, h3⟩ => ⟨K, N, S, T, E, h1, hw.on h2, h3.imp (fun ⟨a, b, c, d⟩ => ⟨a, by unfold showE; rw [b]; rfl, c, d.symm⟩) (fun h => h.1)⟩
theorem walk (p q : Option Addr) (len cap len' cap' : Nat) (hl : len ≤ maxLen) (hl' : len' ≤ maxLen) (W : World) (hV : Vals W p len) (hT : Texts W q len') (hI : Inv W) :
    Calls Tryd.prog 3 #[.slice p len cap, .slice q len' cap'] W fun e w' => e = .returned (.bool true) ∧ Below W.heap.size W w' := by
  have HV := Lib.hid hV
  have HT := Lib.hid hT
  have H0 : Hid (Ok W W) := Ok.start hI
  clear hV hT hI
  unfold maxLen at hl hl'
  go_enter Tryd.func3, Tryd.ntmps3
  go_wp2_with (go_at_call 11; refine (begun_ok W _ H0.out).mono ?_; rintro e w' ⟨rfl, h⟩; refine Hid.out ?_)
  refine Lib.hid ?_
  go_wp2
  go_loopw [6] (fun i wr => ∃ k : Nat, k ≤ len ∧ i = .int .i64 k ∧ Ok W wr) (fun i _ => len - (intOf i).toNat)
  case atStart => exact ⟨0, Nat.zero_le _, rfl, h⟩
  case round =>
    obtain ⟨k, hk, rfl, hok⟩ := hrel
    by_cases hlt : k < len
    · obtain ⟨b, o, K, N, S, T, rfl, hN, c0, c1, c2, c3⟩ := HV.out k hlt
      have z0 := lt_of_cell c0
      have d0 := (hok.below.cell (p := ⟨b, o + k * 4, none⟩) (by exact z0)).trans c0
      have d1 := (hok.below.cell (p := ⟨b, o + k * 4 + 1, none⟩) (by exact z0)).trans c1
      have d2 := (hok.below.cell (p := ⟨b, o + k * 4 + 2, none⟩) (by exact z0)).trans c2
      have d3 := (hok.below.cell (p := ⟨b, o + k * 4 + 3, none⟩) (by exact z0)).trans c3
      have HD := Lib.hid (And.intro z0 (And.intro c0 (And.intro c1 (And.intro c2 c3))))
      clear c0 c1 c2 c3
      obtain ⟨sh, hsh⟩ : ∃ sh : ByteArray, sh.data.toList = showT K N S T := ⟨⟨(showT K N S T).toArray⟩, rfl⟩
      have HSH := Lib.hid hsh
      have HN := Lib.hid hN
      have HK := Lib.hid hok
      clear hsh hN hok
      cases hvl : valid K N S T
      · have hE : Hid (12 = showE K N S T) := by show _ = _; unfold showE; rw [hvl]; rfl
        go_wp2_with fail
        refine (show_ok _ _ _ _ HN.out sh HSH.out 12 hE.out W _ HK.out).mono ?_
        rintro e w1 ⟨rfl, h1⟩
        have e0 := (h1.below.cell (p := ⟨b, o + k * 4, none⟩) (by exact z0)).trans HD.out.2.1
        have e1 := (h1.below.cell (p := ⟨b, o + k * 4 + 1, none⟩) (by exact z0)).trans HD.out.2.2.1
        have e2 := (h1.below.cell (p := ⟨b, o + k * 4 + 2, none⟩) (by exact z0)).trans HD.out.2.2.2.1
        have e3 := (h1.below.cell (p := ⟨b, o + k * 4 + 3, none⟩) (by exact z0)).trans HD.out.2.2.2.2
        clear d0 d1 d2 d3
        go_wp2_with fail
        refine (valid_ok _ _ _ _ W _ h1).mono ?_
        rw [hvl]
        rintro e w2 ⟨rfl, h2⟩
        clear e0 e1 e2 e3
        go_wp2
        go_roundw
        case rel => exact ⟨k + 1, by omega, by go_num, h2⟩
        case measure => simp [intOf]; omega
      · have hE : Hid (0 = showE K N S T) := by show _ = _; unfold showE; rw [hvl]; rfl
        go_wp2_with fail
        refine (show_ok _ _ _ _ HN.out sh HSH.out 0 hE.out W _ HK.out).mono ?_
        rintro e w1 ⟨rfl, h1⟩
        have e0 := (h1.below.cell (p := ⟨b, o + k * 4, none⟩) (by exact z0)).trans HD.out.2.1
        have e1 := (h1.below.cell (p := ⟨b, o + k * 4 + 1, none⟩) (by exact z0)).trans HD.out.2.2.1
        have e2 := (h1.below.cell (p := ⟨b, o + k * 4 + 2, none⟩) (by exact z0)).trans HD.out.2.2.2.1
        have e3 := (h1.below.cell (p := ⟨b, o + k * 4 + 3, none⟩) (by exact z0)).trans HD.out.2.2.2.2
        clear d0 d1 d2 d3
        go_wp2_with fail
        refine (valid_ok _ _ _ _ W _ h1).mono ?_
        rw [hvl]
        rintro e w2 ⟨rfl, h2⟩
        clear e0 e1 e2 e3
        go_wp2_with fail
        refine (read_back _ _ _ _ hvl HN.out sh HSH.out W _ h2).mono ?_
        rintro e w3 ⟨rfl, h3⟩
        have f0 := (h3.below.cell (p := ⟨b, o + k * 4, none⟩) (by exact z0)).trans HD.out.2.1
        have f1 := (h3.below.cell (p := ⟨b, o + k * 4 + 1, none⟩) (by exact z0)).trans HD.out.2.2.1
        have f2 := (h3.below.cell (p := ⟨b, o + k * 4 + 2, none⟩) (by exact z0)).trans HD.out.2.2.2.1
        have f3 := (h3.below.cell (p := ⟨b, o + k * 4 + 3, none⟩) (by exact z0)).trans HD.out.2.2.2.2
        have z3 := h3.below.size
        have zz : b < w3.heap.size := by omega
        have q1 : veq K N S T K N S T = true := veq_self _ _ _ _
        have H3 := Lib.hid h3
        clear h3
        go_wp2
        go_region
        go_wp2
        go_roundw
        case rel => exact ⟨k + 1, by omega, by go_num, (H3.out.alloc _).drew⟩
        case measure => simp [intOf]; omega
    · have hkk : k = len := by omega
      subst hkk
      go_wp2
      go_loopw [12] (fun i wr => ∃ j : Nat, j ≤ len' ∧ i = .int .i64 j ∧ Ok W wr) (fun i _ => len' - (intOf i).toNat)
      case atStart => exact ⟨0, Nat.zero_le _, rfl, hok⟩
      case round =>
        clear hok hlt
        obtain ⟨j, hj, rfl, hok⟩ := hrel
        by_cases hlt : j < len'
        · obtain ⟨b, o, t, rfl, c0⟩ := HT.out j hlt
          have z0 := lt_of_cell c0
          have d0 := (hok.below.cell (p := ⟨b, o + j, none⟩) (by exact z0)).trans c0
          have HC := Lib.hid c0
          have HK := Lib.hid hok
          clear c0 hok
          go_wp2_with fail
          refine (read_ok _ W _ HK.out).mono ?_
          rintro e w1 ⟨K, N, S, T, E, rfl, h1, hE⟩
          clear d0
          rcases hE with ⟨rfl, hs, hN, ht⟩ | rfl
          · have HS := Lib.hid hs
            have HN := Lib.hid hN
            have HTT := Lib.hid ht
            have H1 := Lib.hid h1
            clear hs hN ht h1
            go_wp2_with fail
            refine (show_ok _ _ _ _ HN.out t HTT.out 0 HS.out W _ (H1.out.alloc _)).mono ?_
            rintro e w2 ⟨rfl, h2⟩
            have d0 := (h2.below.cell (p := ⟨b, o + j, none⟩) (by exact z0)).trans HC.out
            have H2 := Lib.hid h2
            clear h2
            go_wp2
            go_roundw
            case rel => exact ⟨j + 1, by omega, by go_num, H2.out⟩
            case measure => simp [intOf]; omega
          · go_wp2
            go_roundw
            case rel => exact ⟨j + 1, by omega, by go_num, h1.alloc _⟩
            case measure => simp [intOf]; omega
        · have hjj : j = len' := by omega
          subst hjj
          go_wp2
          go_ret
          exact ⟨rfl, hok.below⟩
end Go.Proofs.YtcjibjiojgikjaaDoor.lawRound
