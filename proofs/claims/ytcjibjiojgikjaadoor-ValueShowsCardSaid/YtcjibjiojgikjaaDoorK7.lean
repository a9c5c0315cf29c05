/- The walk of the law ValueShows. -/
import Derived.Test.YtcjibjiojgikjaaDoorE4
import Derived.Test.YtcjibjiojgikjaaDoorR1
import Derived.Test.YtcjibjiojgikjaaDoorO1
import Derived.Test.YtcjibjiojgikjaaDoorV2
import Derived.WalkKit
import Derived.WalkSpells
import Derived.WalkLawsBesides
import Derived.Lib.Hide
import Derived.LoopN
import Derived.LoopTactic
namespace Go.Proofs.YtcjibjiojgikjaaDoor.lawShows
open Go Go.ChangeShapes Go.WideShapes Go.ChangeAt Go.RowKit
set_option maxHeartbeats 4000000
set_option linter.unusedVariables false
set_option linter.unusedSimpArgs false
theorem show_ok (k n : Int) (s : ByteArray) (b : Bool) (hn : I64 n) (sh : ByteArray) (hs : sh.data.toList = showT k n s b) (E : Int) (hE : E = showE k n s b) (w0 w : World) (hw : Ok w0 w) :
    Calls Tryd.prog 12 #[.agg #[.int .i64 k, .int .i64 n, .string s, .bool b]] w fun e w' => e = .returned (.tuple #[.string sh, .int .i64 E]) ∧ Ok w0 w' :=
  (show_sh k n s b hn sh hs E hE w hw.inv.pow).mono fun _ _ ⟨h1, h2⟩ => ⟨h1, hw.on h2⟩
theorem show_rok (k n : Int) (s : ByteArray) (b : Bool) (hn : I64 n) (sh : ByteArray) (hs : sh.data.toList = showT k n s b) (E : Int) (hE : E = showE k n s b) (w0 w : World) (hw : Ok w0 w) :
    Calls Tryd.prog 22 #[.agg #[.int .i64 k, .int .i64 n, .string s, .bool b]] w fun e w' => e = .returned (.tuple #[.string sh, .int .i64 E]) ∧ Ok w0 w' := by
  subst hE
  have : sh = ⟨(showT k n s b).toArray⟩ := bytes_ext (by rw [hs])
  rw [this]
  exact (show_r k n s b hn w).mono fun _ _ ⟨h1, h2⟩ => ⟨h1, hw.on h2⟩
theorem valid_rok (k n : Int) (s : ByteArray) (b : Bool) (w0 w : World) (hw : Ok w0 w) :
    Calls Tryd.prog 21 #[.agg #[.int .i64 k, .int .i64 n, .string s, .bool b]] w fun e w' => e = .returned (.bool (valid k n s b)) ∧ Ok w0 w' :=
  (valid_r k n s b w).mono fun _ _ ⟨h1, h2⟩ => ⟨h1, hw.on h2⟩
set_option maxRecDepth 100000 in
theorem walk (p : Option Addr) (len cap : Nat) (hl : len ≤ maxLen) (W : World) (hV : Vals W p len) (hI : Inv W) :
    Calls Tryd.prog 7 #[.slice p len cap] W fun e w' => e = .returned (.bool true) ∧ Below W.heap.size W w' := by
  have HV := Lib.hid hV
  have H0 : Hid (Ok W W) := Ok.start hI
  clear hV hI
  unfold maxLen at hl
  go_enter Tryd.func7, Tryd.ntmps7
  go_wp2_with (go_at_call 11; refine (begun_ok W _ H0.out).mono ?_; rintro e w' ⟨rfl, h⟩; refine Hid.out ?_)
  refine Lib.hid ?_
  go_wp2
  go_loopw [4] (fun i wr => ∃ k : Nat, k ≤ len ∧ i = .int .i64 k ∧ Ok W wr) (fun i _ => len - (intOf i).toNat)
  case atStart => exact ⟨0, Nat.zero_le _, rfl, h⟩
  case round =>
    obtain ⟨k, hk, rfl, hok⟩ := hrel
    by_cases hlt : k < len
    · obtain ⟨b, o, K, N, S, T, rfl, hN, c0, c1, c2, c3⟩ := HV.out k hlt
      have z0 := lt_of_cell c0
      have HD := Lib.hid (And.intro z0 (And.intro c0 (And.intro c1 (And.intro c2 c3))))
      have HCL : Hid (∀ w, Ok W w → w.cell? ⟨b, o + k * 4, none⟩ = some (.int .i64 K) ∧ w.cell? ⟨b, o + k * 4 + 1, none⟩ = some (.int .i64 N) ∧ w.cell? ⟨b, o + k * 4 + 2, none⟩ = some (.string S) ∧ w.cell? ⟨b, o + k * 4 + 3, none⟩ = some (.bool T)) := fun w hw =>
        ⟨(hw.below.cell (p := ⟨b, o + k * 4, none⟩) (by exact z0)).trans c0, (hw.below.cell (p := ⟨b, o + k * 4 + 1, none⟩) (by exact z0)).trans c1, (hw.below.cell (p := ⟨b, o + k * 4 + 2, none⟩) (by exact z0)).trans c2, (hw.below.cell (p := ⟨b, o + k * 4 + 3, none⟩) (by exact z0)).trans c3⟩
      clear c0 c1 c2 c3
      obtain ⟨sh, hsh⟩ : ∃ sh : ByteArray, sh.data.toList = showT K N S T := ⟨⟨(showT K N S T).toArray⟩, rfl⟩
      obtain ⟨E, hE⟩ : ∃ E, E = showE K N S T := ⟨_, rfl⟩
      have HE := Lib.hid hE
      have HSH := Lib.hid hsh
      have HN := Lib.hid hN
      have HK := Lib.hid hok
      obtain ⟨d0, d1, d2, d3⟩ := HCL.out _ hok
      clear hsh hN hok hE
      go_wp2_with fail
      refine (valid_ok _ _ _ _ W _ HK.out).mono ?_
      rintro e w1 ⟨rfl, h1⟩
      clear d0 d1 d2 d3
      obtain ⟨d0, d1, d2, d3⟩ := HCL.out _ h1
      have H1 := Lib.hid h1
      clear h1
      go_wp2_with fail
      refine (valid_rok _ _ _ _ W _ H1.out).mono ?_
      rintro e w2 ⟨rfl, h2⟩
      clear d0 d1 d2 d3
      obtain ⟨d0, d1, d2, d3⟩ := HCL.out _ h2
      have H2 := Lib.hid h2
      clear h2
      go_wp2_with fail
      refine (show_ok _ _ _ _ HN.out sh HSH.out E HE.out W _ H2.out).mono ?_
      rintro e w3 ⟨rfl, h3⟩
      clear d0 d1 d2 d3
      obtain ⟨d0, d1, d2, d3⟩ := HCL.out _ h3
      have H3 := Lib.hid h3
      clear h3
      go_wp2_with fail
      refine (show_rok _ _ _ _ HN.out sh HSH.out E HE.out W _ H3.out).mono ?_
      rintro e w4 ⟨rfl, h4⟩
      clear d0 d1 d2 d3
      have H4 := Lib.hid h4
      clear h4
      go_wp2
      go_roundw
      case rel => exact ⟨k + 1, by omega, by go_num, H4.out⟩
      case measure => simp [intOf]; omega
    · have hkk : k = len := by omega
      subst hkk
      go_wp2
      go_ret
      exact ⟨rfl, hok.below⟩
end Go.Proofs.YtcjibjiojgikjaaDoor.lawShows
