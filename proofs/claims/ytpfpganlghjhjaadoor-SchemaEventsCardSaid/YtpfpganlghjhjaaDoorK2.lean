/- What the law SchemaNames asks of Name and Declare. -/
import Derived.Test.YtpfpganlghjhjaaDoorK1
namespace Go.Proofs.YtpfpganlghjhjaaDoor.lawNames
open Go Go.ChangeShapes Go.WideShapes Go.ChangeAt Go.RowKit
set_option maxHeartbeats 1000000
set_option linter.unusedVariables false
set_option linter.unusedSimpArgs false
theorem name_x (w : World) (h : Kw w) : Calls Tryd.prog 16 #[.string ⟨#[120]⟩] w fun e w' => e = .returned (.bool true) ∧ Below w.heap.size w w' := by
  have e : nameL (⟨#[120]⟩ : ByteArray).toList = true := by rw [ByteArray.toList_eq]; decide +kernel
  have := name_any ⟨#[120]⟩ w h
  rw [e] at this
  exact this
theorem name_int (w : World) (h : Kw w) : Calls Tryd.prog 16 #[.string ⟨#[73, 78, 84]⟩] w fun e w' => e = .returned (.bool false) ∧ Below w.heap.size w w' := by
  have e : nameL (⟨#[73, 78, 84]⟩ : ByteArray).toList = false := by rw [ByteArray.toList_eq]; decide +kernel
  have := name_any ⟨#[73, 78, 84]⟩ w h
  rw [e] at this
  exact this
abbrev other : ByteArray := ⟨#[79, 116, 104, 101, 114]⟩
theorem other_name : nameL other.toList = true := by rw [ByteArray.toList_eq]; decide +kernel
theorem other_attr : attrL other.toList = true := by rw [ByteArray.toList_eq]; decide +kernel
theorem decl_fault {name : ByteArray} {l : List (ByteArray × Int)} {X : Int} (hX : X ≠ 0) (hF : ∀ F, FaultIs name.toList l F → F = X) (v : Value) (cB mB : Nat) (es : Array MapEntry) (clock : Nat) (r : Option (Nat × Value)) (w : World) (hK : Kw w) (hv : AtV w v l) (hc : Cat w cB mB es clock) (hf : Found es name r)
    (hx : ∃ a p n c, (r.map (·.2)).getD (.agg #[.string ⟨#[]⟩, .slice none 0 0]) = .agg #[.string a, .slice p n c]) :
    Calls Tryd.prog 8 #[.pointer (some ⟨cB, 0, none⟩), .agg #[.string name, v]] w fun e w' => e = .returned (.int .i64 X) ∧ Below w.heap.size w w' := by
  refine (declare_any name v l cB mB es clock r w hK hv hc hf hx).mono ?_
  rintro e w' ⟨F, h1, h2⟩
  obtain rfl := hF F h1
  rcases h2 with ⟨_, h3, h4⟩ | ⟨h3, _⟩ | ⟨h3, _⟩ | ⟨h3, _⟩
  · exact ⟨h3, h4⟩
  · exact absurd h3 hX
  · exact absurd h3 hX
  · exact absurd h3 hX
theorem decl_found {name : ByteArray} {l : List (ByteArray × Int)} (hF : ∀ F, FaultIs name.toList l F → F = 0) (v : Value) (cB mB : Nat) (es : Array MapEntry) (clock : Nat) (x : Nat × Value) (w : World) (hK : Kw w) (hv : AtV w v l) (hc : Cat w cB mB es clock) (hf : Found es name (some x))
    (hx : ∃ a p n c, ((some x : Option (Nat × Value)).map (·.2)).getD (.agg #[.string ⟨#[]⟩, .slice none 0 0]) = .agg #[.string a, .slice p n c]) :
    Calls Tryd.prog 8 #[.pointer (some ⟨cB, 0, none⟩), .agg #[.string name, v]] w fun e w' => e = .returned (.int .i64 5) ∧ Below w.heap.size w w' := by
  refine (declare_any name v l cB mB es clock (some x) w hK hv hc hf hx).mono ?_
  rintro e w' ⟨F, h1, h2⟩
  obtain rfl := hF F h1
  rcases h2 with ⟨h3, _⟩ | ⟨_, _, h3, h4⟩ | ⟨_, h3, _⟩ | ⟨_, h3, _⟩
  · exact absurd rfl h3
  · exact ⟨h3, h4⟩
  · cases h3
  · cases h3
theorem decl_new {name : ByteArray} {l : List (ByteArray × Int)} (hF : ∀ F, FaultIs name.toList l F → F = 0) (v : Value) (cB mB : Nat) (es : Array MapEntry) (clock : Nat) (w : World) (hK : Kw w) (hv : AtV w v l) (hc : Cat w cB mB es clock) (hf : Found es name none) (hs : es.size < 64) :
    Calls Tryd.prog 8 #[.pointer (some ⟨cB, 0, none⟩), .agg #[.string name, v]] w fun e w' => e = .returned (.int .i64 0) ∧ w.grownBy w' (some mB) ∧ ∃ v', Cat w' cB mB (es.push { key := .string name, val := .agg #[.string name, v'], born := clock }) (clock + 1) ∧ AtV w' v' l := by
  refine (declare_any name v l cB mB es clock none w hK hv hc hf ⟨_, _, _, _, rfl⟩).mono ?_
  rintro e w' ⟨F, h1, h2⟩
  obtain rfl := hF F h1
  rcases h2 with ⟨h3, _⟩ | ⟨_, h3, _⟩ | ⟨_, _, h3, _⟩ | ⟨_, _, _, h3, h4, h5⟩
  · exact absurd rfl h3
  · cases h3
  · omega
  · exact ⟨h3, h4, h5⟩
theorem fi_bad {n : List UInt8} {l : List (ByteArray × Int)} (h : nameL n = false) (F : Int) (hF : FaultIs n l F) : F = 20 := by
  rcases hF with ⟨_, h1⟩ | ⟨h1, _⟩ | ⟨h1, _⟩ | ⟨h1, _⟩
  · exact h1
  all_goals (rw [h] at h1; cases h1)
theorem fi_nil {n : List UInt8} (h : nameL n = true) (F : Int) (hF : FaultIs n [] F) : F = 0 := by
  rcases hF with ⟨h1, _⟩ | ⟨_, h1, _⟩ | ⟨_, _, h1, _⟩ | ⟨_, _, k, h1, _⟩
  · rw [h] at h1; cases h1
  · simp at h1
  · exact h1
  · simp at h1
theorem one_at (s : ByteArray) : faultAt [(s, 1)] 0 = if attrL s.toList = false then 20 else 0 := by
  show faultA [] (s, 1) = _
  unfold faultA
  cases attrL s.toList
  · rfl
  · rw [if_neg (by decide), if_neg (show ¬ isK 1 = false by decide), if_neg (show ¬ hasN [] s.toList = true by simp [hasN]), if_neg (by decide)]
theorem fi_one {n : List UInt8} {s : ByteArray} (h : nameL n = true) (F : Int) (hF : FaultIs n [(s, 1)] F) : F = if attrL s.toList = false then 20 else 0 := by
  rcases hF with ⟨h1, _⟩ | ⟨_, h1, _⟩ | ⟨_, _, h1, h2⟩ | ⟨_, _, k, h1, h2, _⟩
  · rw [h] at h1; cases h1
  · simp at h1
  · have := h2 0 (by simp)
    rw [one_at] at this
    rw [h1, this]
  · have hk : k = 0 := by simpa using h1
    subst hk
    rw [one_at] at h2
    exact h2.symm
/-- below what the law found, nothing turns where a catalog of its own grows -/
theorem below_grown {B : Nat} {W w w' : World} {m : Nat} (h : Below B W w) (hg : w.grownBy w' (some m)) (hB : B ≤ w.heap.size) (hm : B ≤ m) : Below B W w' :=
  h.grown hg hB fun k hk => by
    obtain rfl := Option.some.inj hk
    exact hm
end Go.Proofs.YtpfpganlghjhjaaDoor.lawNames
