/- Rows of rows of bytes that are handed in. -/
import Derived.Test.YtlinpkmfjkcoiaaDoorV1
namespace Go.Proofs.YtlinpkmfjkcoiaaDoor
open Go Go.ChangeShapes Go.WideShapes Go.ChangeAt Go.RowKit Go.Deep
set_option maxHeartbeats 1000000
set_option linter.unusedVariables false
set_option linter.unusedSimpArgs false
theorem weightsAll_mem {H : Type} {P : Program} {e : TypeId} : ∀ {l : List (DataW H)} {d : DataW H}, d ∈ l → ∀ n ∈ d.weights P e, n ∈ DataW.weightsAll P e l
  | x :: l, d, h, n, hn => by
    unfold DataW.weightsAll
    rw [List.mem_append]
    rcases List.mem_cons.1 h with rfl | h
    · exact .inl hn
    · exact .inr (weightsAll_mem h n hn)
set_option maxRecDepth 100000 in
theorem open_raws {H : Type} {enc : TypeId × Value → H} {w : World} {held : Bool} {v : Value} {d : DataW H} {ps : List MemPlace} {r : Reach} {b0 : Nat} (hv : Value.okWide Tryd.prog w r b0 47 v)
    (h : DataW.Trod enc Tryd.prog w 0 (fun _ => true) held 47 v d ps) (hs : ∀ n ∈ d.weights Tryd.prog 47, n ≤ reachBytes) : ∃ p len cap, v = .slice p len cap ∧ len ≤ maxLen ∧ Raws w p len := by
  obtain ⟨p, len, cap, rfl⟩ := okWide_slice Tryd.underlying47 hv
  obtain ⟨fuel, hf⟩ := h
  simp only [Value.cells] at hf
  refine ⟨p, len, cap, rfl, ?_⟩
  rcases open_int_rows Tryd.underlying47 Tryd.underlying25 (k := .u8) (by kernel_rfl) (by kernel_rfl) (by kernel_rfl) hf with ⟨h0, _⟩ | ⟨a, l, c, A, L, C, Z, h0, _, hl, hm, hx, hi⟩
  · simp only [List.cons.injEq, Value.slice.injEq, and_true] at h0
    obtain ⟨rfl, rfl, rfl⟩ := h0
    exact ⟨Nat.zero_le _, fun i hi => absurd hi (Nat.not_lt_zero _)⟩
  · simp only [List.cons.injEq, Value.slice.injEq, and_true] at h0
    obtain ⟨rfl, rfl, rfl⟩ := h0
    refine ⟨Nat.le_trans hl hm, fun i him => ?_⟩
    obtain ⟨x0, hL, hC, hZ, hw, hn, hc⟩ := hi i (by omega)
    obtain ⟨y0, _⟩ := hi 0 (by omega)
    obtain ⟨b, o, spot⟩ := a
    have hspot : spot = none := by simpa [Addr.add] using World.cell?_spot y0
    subst hspot
    obtain ⟨l', e, hin⟩ := in_of (w := w) (a := A i) (len := L i) (C := C i) hL hZ hw hn (fun a' ha c' hc' => (hc a' ha).2 c' hc')
    have hd := congrArg Prod.fst hx
    simp only at hd
    have hre : reachBytes = 140737488351232 := by decide
    have hb : L i ≤ 140737488351232 := by
      cases hA : A i with
      | none => have := hn hA; omega
      | some a' =>
        have h1 : Tryd.prog.bytesOf 5 = 1 := by kernel_rfl
        have hmem : (intRow .u8 (A i) (L i) (Z i) : DataW H) ∈ (List.range len).map fun r => intRow .u8 (A r) (L r) (Z r) := List.mem_map.2 ⟨i, List.mem_range.2 him, rfl⟩
        have hwt : C i ∈ (intRow .u8 (A i) (L i) (Z i) : DataW H).weights Tryd.prog 25 := by
          rw [hA]
          unfold intRow
          simp only
          unfold DataW.weights
          rw [Tryd.underlying25]
          simp only [h1]
          refine List.mem_cons.2 (.inl ?_)
          simp [lits]
          omega
        have := hs (C i) (by
          rw [hd]
          unfold DataW.weights
          rw [Tryd.underlying47]
          exact List.mem_cons_of_mem _ (List.mem_append_left _ (weightsAll_mem hmem _ hwt)))
        omega
    refine ⟨b, o, A i, C i, l', rfl, ?_, hin, by omega, by omega, hC⟩
    rw [Addr.add_lit] at x0
    rw [e]
    exact x0
end Go.Proofs.YtlinpkmfjkcoiaaDoor
