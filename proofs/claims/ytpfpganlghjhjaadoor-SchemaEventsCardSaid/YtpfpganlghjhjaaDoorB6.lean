/- Plain facts for the law SchemaEvents: what is found, what Check says, rows of values that are owned. -/
import Derived.Test.YtpfpganlghjhjaaDoorB4
import Derived.Test.YtpfpganlghjhjaaDoorB5
import Derived.Test.YtpfpganlghjhjaaDoorB3
import Derived.Test.YtpfpganlghjhjaaDoorK2b
namespace Go.Proofs.YtpfpganlghjhjaaDoor.lawEvents
open Go Go.ChangeShapes Go.WideShapes Go.ChangeAt Go.RowKit
set_option maxHeartbeats 1000000
set_option linter.unusedVariables false
set_option linter.unusedSimpArgs false
abbrev tT : ByteArray := ⟨#[84]⟩
abbrev tt : ByteArray := ⟨#[116]⟩
theorem T_ne_t : tt ≠ tT := by decide
/-- a type that typed makes is without fault -/
theorem good_decl {l : List (ByteArray × Int)} (h : GoodL l) (h16 : l.length ≤ 16) (F : Int) (hF : FaultIs tT.toList l F) : F = 0 := by
  rcases hF with ⟨h1, _⟩ | ⟨_, h1, _⟩ | ⟨_, _, h1, _⟩ | ⟨_, _, k, h1, h2, h3, _⟩
  · rw [name_T] at h1; cases h1
  · omega
  · exact h1
  · rw [good_fault h h16 k h1] at h2
    exact absurd h2.symm h3
theorem check_ok {time : Int} {vl : List V4} {l : List (ByteArray × Int)} {E : Int} (h : CheckIs time vl l E) (h0 : 0 ≤ time) (h1 : time ≤ 4611686018427387904) (hl : vl.length = l.length) (hv : ∀ k, k < vl.length → valAt vl l k = 0) : E = 0 := by
  rcases h with ⟨h2, _⟩ | ⟨_, _, h2, _⟩ | ⟨_, _, _, h2, _⟩ | ⟨_, _, _, k, h2, h3, h4, _⟩
  · omega
  · exact absurd hl h2
  · exact h2
  · rw [hv k h2] at h3
    exact absurd h3.symm h4
theorem check_time {time : Int} {vl : List V4} {l : List (ByteArray × Int)} {E : Int} (h : CheckIs time vl l E) (ht : time < 0 ∨ 4611686018427387904 < time) : E = 23 := by
  rcases h with ⟨_, h2⟩ | ⟨h2, h3, _⟩ | ⟨h2, h3, _⟩ | ⟨h2, h3, _⟩
  · exact h2
  all_goals omega
theorem check_len {time : Int} {vl : List V4} {l : List (ByteArray × Int)} {E : Int} (h : CheckIs time vl l E) (h0 : 0 ≤ time) (h1 : time ≤ 4611686018427387904) (hl : vl.length ≠ l.length) : E = 22 := by
  rcases h with ⟨h2, _⟩ | ⟨_, _, _, h2⟩ | ⟨_, _, h2, _⟩ | ⟨_, _, h2, _⟩
  · omega
  · exact h2
  · exact absurd h2 hl
  · exact absurd h2 hl
theorem check_bad {time : Int} {vl : List V4} {l : List (ByteArray × Int)} {E F : Int} (h : CheckIs time vl l E) (h0 : 0 ≤ time) (h1 : time ≤ 4611686018427387904) (hl : vl.length = l.length) {a : Nat} (ha : a < vl.length) (hF : valAt vl l a = F) (hF0 : F ≠ 0) (hv : ∀ k, k < vl.length → k ≠ a → valAt vl l k = 0) : E = F := by
  rcases h with ⟨h2, _⟩ | ⟨_, _, h2, _⟩ | ⟨_, _, _, _, h2⟩ | ⟨_, _, _, k, h2, h3, h4, h5⟩
  · omega
  · exact absurd hl h2
  · have := h2 a ha
    rw [hF] at this
    exact absurd this hF0
  · by_cases hk : k = a
    · subst hk
      rw [← h3, hF]
    · rw [hv k h2 hk] at h3
      exact absurd h3.symm h4
def cells4 (vl : List V4) : List Value := vl.flatMap fun v => [.int .i64 v.k, .int .i64 v.n, .string v.s, .bool v.b]
theorem cells4_snoc (vl : List V4) (v : V4) : cells4 (vl ++ [v]) = cells4 vl ++ [.int .i64 v.k, .int .i64 v.n, .string v.s, .bool v.b] := by simp [cells4]
theorem cells4_cons (v : V4) (vl : List V4) : cells4 (v :: vl) = .int .i64 v.k :: .int .i64 v.n :: .string v.s :: .bool v.b :: cells4 vl := rfl
theorem cells4_len (vl : List V4) : (cells4 vl).length = vl.length * 4 := by
  induction vl with
  | nil => rfl
  | cons v vl ih => rw [cells4_cons, List.length_cons, List.length_cons, List.length_cons, List.length_cons, ih, List.length_cons]; omega
theorem cells4_one (vl : List V4) : ∀ u ∈ cells4 vl, u.oneCell' = true := by
  intro u hu
  unfold cells4 at hu
  rw [List.mem_flatMap] at hu
  obtain ⟨v, _, h⟩ := hu
  simp only [List.mem_cons, List.not_mem_nil, or_false] at h
  rcases h with rfl | rfl | rfl | rfl <;> rfl
theorem cells4_at : ∀ (vl : List V4) (i : Nat) (h : i < vl.length), (cells4 vl)[i * 4]? = some (.int .i64 vl[i].k) ∧ (cells4 vl)[i * 4 + 1]? = some (.int .i64 vl[i].n) ∧ (cells4 vl)[i * 4 + 2]? = some (.string vl[i].s) ∧ (cells4 vl)[i * 4 + 3]? = some (.bool vl[i].b)
  | v :: vl, 0, h => ⟨rfl, rfl, rfl, rfl⟩
  | v :: vl, i + 1, h => by
    have := cells4_at vl i (by simpa using h)
    rw [cells4_cons, show (i + 1) * 4 = i * 4 + 1 + 1 + 1 + 1 by omega, show i * 4 + 1 + 1 + 1 + 1 + 1 = (i * 4 + 1) + 1 + 1 + 1 + 1 by omega, show i * 4 + 1 + 1 + 1 + 1 + 2 = (i * 4 + 2) + 1 + 1 + 1 + 1 by omega, show i * 4 + 1 + 1 + 1 + 1 + 3 = (i * 4 + 3) + 1 + 1 + 1 + 1 by omega]
    simp only [List.getElem?_cons_succ]
    exact this
/-- what is owned reads as values -/
theorem valrow_of_own {w : World} {B : Nat} {p : Option Addr} {n c : Nat} {vl : List V4} (h : w.ownsRow B 35 4 (.slice p n c) vl.length (cells4 vl)) : ValRow w p vl := by
  intro i hi
  rcases h.2 with ⟨h1, h0⟩ | ⟨g, cap, cur, h1, _⟩
  · omega
  · simp only [Value.slice.injEq] at h1
    obtain ⟨rfl, rfl, rfl⟩ := h1
    have hrow := fun j u hu => h.cells (g := g) rfl j u hu
    obtain ⟨k0, k1, k2, k3⟩ := cells4_at vl i hi
    have c0 := hrow _ _ k0
    have c1 := hrow _ _ k1
    have c2 := hrow _ _ k2
    have c3 := hrow _ _ k3
    rw [Addr.add_lit] at c0 c1 c2 c3
    exact ⟨g, 0, rfl, c0, by rw [Nat.add_assoc]; exact c1, by rw [Nat.add_assoc]; exact c2, by rw [Nat.add_assoc]; exact c3⟩
/-- the value that the law makes for an attribute of a kind -/
def mk4 (k n : Int) (s : ByteArray) : V4 := ⟨vK k, vN k n, vS k s, vB k n⟩
theorem mk4_good {k n : Int} {s : ByteArray} (hk : k = 1 ∨ k = 2 ∨ k = 3) : valF (mk4 k n s) k = 0 := by
  obtain ⟨h1, h2⟩ := value_valid k n s hk
  unfold valF mk4
  rw [if_neg (by simp only; rw [h2]; simp), if_neg (by simp only; rw [h1]; decide)]
/-- each value is the one that the law makes for its attribute -/
def Made (vl : List V4) (l : List (ByteArray × Int)) : Prop := ∀ i (h1 : i < vl.length) (h2 : i < l.length), ∃ n s, vl[i] = mk4 l[i].2 n s
theorem made_ok {vl : List V4} {l : List (ByteArray × Int)} (h : Made vl l) (hg : GoodL l) (hl : vl.length ≤ l.length) (k : Nat) (hk : k < vl.length) : valAt vl l k = 0 := by
  rw [valAt_is hk (by omega)]
  obtain ⟨n, s, e⟩ := h k hk (by omega)
  rw [e]
  exact mk4_good (hg k (by omega)).2
theorem made_snoc {vl : List V4} {l : List (ByteArray × Int)} (h : Made vl l) (hl : vl.length < l.length) (n : Int) (s : ByteArray) : Made (vl ++ [mk4 l[vl.length].2 n s]) l := by
  intro i h1 h2
  by_cases hi : i < vl.length
  · obtain ⟨n', s', e⟩ := h i hi h2
    exact ⟨n', s', by rw [List.getElem_append_left hi]; exact e⟩
  · have hil : i = vl.length := by simp at h1; omega
    subst hil
    exact ⟨n, s, by simp⟩
/-- what the catalog finds behind the one Declare -/
theorem found_T (val : Value) : Found ((#[] : Array MapEntry).push { key := .string tT, val := val, born := 0 }) tT (some (0, val)) := lawNames.found_same tT val
theorem found_t (val : Value) : Found ((#[] : Array MapEntry).push { key := .string tT, val := val, born := 0 }) tt none := lawNames.found_other T_ne_t val
end Go.Proofs.YtpfpganlghjhjaaDoor.lawEvents
