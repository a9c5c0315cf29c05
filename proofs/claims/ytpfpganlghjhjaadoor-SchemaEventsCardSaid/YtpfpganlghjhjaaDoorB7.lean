/- A row of values of one's own, one value of it set anew. -/
import Derived.Test.YtpfpganlghjhjaaDoorB6
namespace Go.Proofs.YtpfpganlghjhjaaDoor.lawEvents
open Go Go.ChangeShapes Go.WideShapes Go.ChangeAt Go.RowKit
set_option maxHeartbeats 1000000
set_option linter.unusedVariables false
set_option linter.unusedSimpArgs false
theorem own4_frozen {w : World} {B g n c : Nat} {xs : List Value} (h : w.ownsRow B 35 4 (.slice (some ⟨g, 0, none⟩) n c) n xs) (i : Nat) : w.frozen? ⟨g, i, none⟩ = false := by
  rcases h.2 with ⟨h1, _⟩ | ⟨g', cap, cur, h1, _, hb, _⟩
  · cases h1
  · simp only [Value.slice.injEq, Option.some.injEq, Addr.mk.injEq, and_true] at h1
    obtain ⟨rfl, _⟩ := h1
    simp [World.frozen?, hb]
/-- what Check says of the rest, and of the one that was set -/
theorem valAt_set {vl : List V4} {l : List (ByteArray × Int)} {a : Nat} (ha : a < vl.length) (hl : vl.length = l.length) (V : V4) : valAt (vl.set a V) l a = valF V (l[a]'(by omega)).2 := by
  rw [valAt_is (by simpa using ha) (by omega)]
  simp
theorem valAt_set_ne {vl : List V4} {l : List (ByteArray × Int)} {a i : Nat} (h : i ≠ a) (V : V4) : valAt (vl.set a V) l i = valAt vl l i := by
  unfold valAt
  rw [List.getElem?_set_ne (Ne.symm h)]
/-- a world whose row reads as before but at one value -/
theorem valrow_set {w w' : World} {g a : Nat} {vl : List V4} (h : ValRow w (some ⟨g, 0, none⟩) vl) (V : V4) (hr : ∀ i j, i ≠ a → j < 4 → w'.cell? ⟨g, i * 4 + j, none⟩ = w.cell? ⟨g, i * 4 + j, none⟩)
    (h0 : w'.cell? ⟨g, a * 4, none⟩ = some (.int .i64 V.k)) (h1 : w'.cell? ⟨g, a * 4 + 1, none⟩ = some (.int .i64 V.n)) (h2 : w'.cell? ⟨g, a * 4 + 2, none⟩ = some (.string V.s)) (h3 : w'.cell? ⟨g, a * 4 + 3, none⟩ = some (.bool V.b)) :
    ValRow w' (some ⟨g, 0, none⟩) (vl.set a V) := by
  intro i hi
  have hi' : i < vl.length := by simpa using hi
  refine ⟨g, 0, rfl, ?_⟩
  rw [Nat.zero_add]
  by_cases hia : i = a
  · subst hia
    rw [List.getElem_set_self]
    exact ⟨h0, h1, h2, h3⟩
  · rw [List.getElem_set_ne (Ne.symm hia)]
    obtain ⟨b, o, e, c0, c1, c2, c3⟩ := h i hi'
    simp only [Option.some.injEq, Addr.mk.injEq, and_true] at e
    obtain ⟨rfl, rfl⟩ := e
    rw [Nat.zero_add] at c0 c1 c2 c3
    exact ⟨(hr i 0 hia (by omega)).trans c0, (hr i 1 hia (by omega)).trans c1, (hr i 2 hia (by omega)).trans c2, (hr i 3 hia (by omega)).trans c3⟩
/-- a value that was sound and has another kind, or a field that is none of its kind's -/
theorem valF_kind {V : V4} {k : Int} (h : V.k ≠ k) : valF V k = 10 := by unfold valF; rw [if_pos h]
theorem valF_str {k n : Int} {s x : ByteArray} (hk : k = 1) (hx : x.toList ≠ []) : valF ⟨vK k, vN k n, x, vB k n⟩ k = 12 := by
  subst hk
  unfold valF
  rw [if_neg (by simp [vK]), if_pos]
  simp only [valid, vK, vN, vB, veq]
  simp [hx]
theorem valF_int {k n : Int} {s : ByteArray} (hk : k = 2 ∨ k = 3) : valF ⟨vK k, 5, vS k s, vB k n⟩ k = 12 := by
  rcases hk with rfl | rfl
  · unfold valF
    rw [if_neg (by simp [vK]), if_pos]
    simp [valid, vK, vS, vB, veq]
  · unfold valF
    rw [if_neg (by simp [vK]), if_pos]
    simp [valid, vK, vS, vB, veq]
end Go.Proofs.YtpfpganlghjhjaaDoor.lawEvents
