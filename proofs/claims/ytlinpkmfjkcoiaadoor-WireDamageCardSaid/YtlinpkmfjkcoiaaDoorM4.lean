/- Batches that are damaged: plain facts. -/
import Derived.Test.YtlinpkmfjkcoiaaDoorM3
namespace Go.Proofs.YtlinpkmfjkcoiaaDoor
set_option maxHeartbeats 1000000
set_option linter.unusedVariables false
theorem body_pos (es : List Evt) : 1 ≤ (bodyW es).length := by
  have : (put (es.length : Int)).length ≤ (bodyW es).length := by unfold bodyW; rw [List.length_append]; omega
  have h5 := grp_pos (zig (es.length : Int))
  unfold put at this
  omega
theorem packW_len (es : List Evt) : (packW es).length = (bodyW es).length + 4 := by unfold packW; rw [List.length_append, sumW_len]
/-- bytes of which the sum does not hold -/
theorem unpack_told {b s : List UInt8} (h6 : b.length + 4 ≤ 1048576) (h1 : 1 ≤ b.length) (hs : s.length = 4) (hne : sumW b ≠ s) : unpackR (b ++ s) = .bad 32 := by
  have hl : (b ++ s).length = b.length + 4 := by rw [List.length_append, hs]
  unfold unpackR
  rw [if_neg (by omega), if_neg (by omega), hl, Nat.add_sub_cancel, List.take_left, List.drop_left, if_neg hne]
/-- one byte is another one -/
theorem damage_one {es : List Evt} (hl : (packW es).length ≤ 1048576) {i : Nat} (hi : i < (packW es).length) {x : UInt8} (hx : x ≠ (packW es)[i]) : unpackR ((packW es).set i x) = .bad 32 := by
  have hp := body_pos es
  have hlen := packW_len es
  have hs := sumW_len (bodyW es)
  by_cases hb : i < (bodyW es).length
  · have e : (packW es).set i x = (bodyW es).set i x ++ sumW (bodyW es) := by unfold packW; rw [List.set_append_left _ _ hb]
    rw [e]
    refine unpack_told (by rw [List.length_set]; omega) (by rw [List.length_set]; omega) hs fun h => ?_
    have ex : (packW es)[i] = (bodyW es)[i] := by simp only [packW]; rw [List.getElem_append_left hb]
    rw [ex] at hx
    refine hx (sum_change (u := (bodyW es).take i) (v := (bodyW es).drop (i + 1)) ?_)
    rw [show (bodyW es).take i ++ x :: (bodyW es).drop (i + 1) = (bodyW es).set i x by rw [List.set_eq_take_append_cons_drop, if_pos hb], h]
    congr 1
    rw [List.getElem_cons_drop, List.take_append_drop]
  · have e : (packW es).set i x = bodyW es ++ (sumW (bodyW es)).set (i - (bodyW es).length) x := by unfold packW; rw [List.set_append_right _ _ (by omega)]
    rw [e]
    refine unpack_told (by omega) hp (by rw [List.length_set]; exact hs) fun h => ?_
    have ex : (packW es)[i] = (sumW (bodyW es))[i - (bodyW es).length]'(by omega) := by simp only [packW]; rw [List.getElem_append_right (by omega)]
    have hk : (i - (bodyW es).length) < (sumW (bodyW es)).length := by omega
    have h2 := congrArg (fun l : List UInt8 => l[i - (bodyW es).length]?) h
    rw [List.getElem?_set_self (by simpa using hk), List.getElem?_eq_getElem hk] at h2
    rw [ex] at hx
    exact hx (Option.some.inj h2).symm
theorem split2 {l : List UInt8} {j : Nat} (h : j + 1 < l.length) : ∃ u v, l = u ++ l[j] :: l[j + 1] :: v ∧ u.length = j := by
  refine ⟨l.take j, l.drop (j + 2), ?_, by rw [List.length_take]; omega⟩
  rw [List.getElem_cons_drop, List.getElem_cons_drop, List.take_append_drop]
/-- two bytes exchanged -/
def swapL (l : List UInt8) (j : Nat) (x y : UInt8) : List UInt8 := (l.set j y).set (j + 1) x
theorem swap_at {u v : List UInt8} {x y : UInt8} : swapL (u ++ x :: y :: v) u.length x y = u ++ y :: x :: v := by
  unfold swapL
  rw [List.set_append_right _ _ (by omega), List.set_append_right _ _ (by omega)]
  simp
theorem swap_alike {l : List UInt8} {j : Nat} (h : j + 1 < l.length) (he : l[j] = l[j + 1]) : swapL l j l[j] l[j + 1] = l := by
  unfold swapL
  rw [← he, List.set_getElem_self]
  conv => lhs; rw [he, List.set_getElem_self]
theorem damage_two {es : List Evt} (hl : (packW es).length ≤ 1048576) {j : Nat} (hj : j + 5 < (packW es).length) (hx : (packW es)[j] ≠ (packW es)[j + 1]) : unpackR (swapL (packW es) j (packW es)[j] (packW es)[j + 1]) = .bad 32 := by
  have hp := body_pos es
  have hlen := packW_len es
  have hs := sumW_len (bodyW es)
  have hb : j + 1 < (bodyW es).length := by omega
  have e1 : (packW es)[j] = (bodyW es)[j] := by simp only [packW]; rw [List.getElem_append_left (by omega)]
  have e2 : (packW es)[j + 1] = (bodyW es)[j + 1] := by simp only [packW]; rw [List.getElem_append_left (by omega)]
  rw [e1, e2] at hx ⊢
  obtain ⟨u, v, hb', hu⟩ := split2 hb
  obtain ⟨x, hxx⟩ : ∃ x, x = (bodyW es)[j] := ⟨_, rfl⟩
  obtain ⟨y, hyy⟩ : ∃ y, y = (bodyW es)[j + 1] := ⟨_, rfl⟩
  rw [← hxx, ← hyy] at hx hb' ⊢
  have e : swapL (packW es) j x y = swapL (bodyW es) j x y ++ sumW (bodyW es) := by
    unfold swapL packW
    rw [List.set_append_left _ _ (by omega), List.set_append_left _ _ (by rw [List.length_set]; omega)]
  have e3 : swapL (bodyW es) j x y = u ++ y :: x :: v := by
    rw [hb', ← hu]
    exact swap_at
  have h3 : (u ++ y :: x :: v).length = (bodyW es).length := by rw [hb']; simp
  rw [e, e3]
  refine unpack_told (by rw [h3]; omega) (by rw [h3]; omega) hs fun h => ?_
  rw [hb'] at h
  exact hx (sum_swap h.symm)
end Go.Proofs.YtlinpkmfjkcoiaaDoor
