/- Batches as bytes: plain facts: their form, how they are read, that each has one form only. -/
import Derived.Test.YtlinpkmfjkcoiaaDoorF3
import Derived.Test.YtlinpkmfjkcoiaaDoorS1
namespace Go.Proofs.YtlinpkmfjkcoiaaDoor
set_option maxHeartbeats 1000000
set_option linter.unusedVariables false
/-- events one behind the other -/
def evsW (es : List Evt) : List UInt8 := es.flatMap evtW
def evsR : Nat → Rd (List Evt)
  | 0 => fun _ => .ok [] 0
  | n + 1 => evtR.andThen fun v => (evsR n).map (v :: ·)
abbrev evt0 : Evt := ⟨⟨#[]⟩, 0, []⟩
theorem evsR_form : ∀ n, Form (evsR n) evsW (fun es => es.length = n ∧ ∀ e ∈ es, OkE e)
  | 0 => by
    constructor
    · rintro v ⟨hv, _⟩ t
      obtain rfl := List.eq_nil_of_length_eq_zero hv
      rfl
    · intro l v k hk
      simp only [evsR, Res.ok.injEq] at hk
      obtain ⟨rfl, rfl⟩ := hk
      exact ⟨⟨rfl, by simp⟩, Nat.zero_le _, rfl⟩
    · rintro v ⟨hv, _⟩ i hi
      obtain rfl := List.eq_nil_of_length_eq_zero hv
      exact absurd hi (Nat.not_lt_zero _)
  | n + 1 => by
    have ih := evsR_form n
    refine (evtR_law.andThen (f := fun v => (evsR n).map (v :: ·)) (wb := fun es => evsW es.tail) (wr := fun es => match es with | [] => evtW evt0 | v :: t => evtW v ++ evsW t) (Db := fun v es => ∃ t, (t.length = n ∧ ∀ v ∈ t, OkE v) ∧ es = v :: t) (fun es => es.headD evt0)
      (fun a ha => ih.map _ (fun es : List Evt => evsW es.tail) (fun t _ => rfl)) (fun u => by cases u <;> simp [evsW]) (fun a u hu => by obtain ⟨t, _, rfl⟩ := hu; rfl)).congr (fun _ => rfl) (fun es => ?_) (fun es hes => ?_)
    · constructor
      · rintro ⟨h1, h2⟩
        cases es with
        | nil => cases h1
        | cons v t => exact ⟨h2 v (by simp), t, ⟨by simpa using h1, fun u hu => h2 u (by simp [hu])⟩, rfl⟩
      · rintro ⟨h1, t, ⟨h2, h3⟩, e⟩
        generalize es.headD evt0 = v at h1 e
        subst e
        refine ⟨by simp [h2], fun u hu => ?_⟩
        simp only [List.mem_cons] at hu
        rcases hu with rfl | hu
        · exact h1
        · exact h3 u hu
    · obtain ⟨h1, t, _, e⟩ := hes
      generalize es.headD evt0 = v at h1 e
      subst e
      simp [evsW]
/-- what stands ahead of the sum -/
def bodyW (es : List Evt) : List UInt8 := put es.length ++ evsW es
def bodyR : Rd (List Evt) := (numW 0 1024).andThen fun n => evsR n.toNat
def OkB (es : List Evt) : Prop := es.length ≤ 1024 ∧ ∀ e ∈ es, OkE e
theorem bodyR_form : Form bodyR bodyW OkB := by
  refine ((numW_form 0 1024 (by omega) (by omega)).andThen (f := fun n => evsR n.toNat) (wb := evsW) (wr := bodyW) (Db := fun n es => (es.length = n.toNat ∧ ∀ e ∈ es, OkE e) ∧ 0 ≤ n) (fun es => (es.length : Int))
    (fun n hn => (evsR_form n.toNat).congr (fun _ => rfl) (fun v => ⟨fun h => h.1, fun h => ⟨h, hn.1⟩⟩) (fun _ _ => rfl)) (fun _ => rfl) (fun n es hu => by obtain ⟨⟨h1, _⟩, h0⟩ := hu; omega)).congr (fun _ => rfl) (fun es => ?_) (fun _ _ => rfl)
  unfold OkB
  constructor
  · rintro ⟨h1, h2⟩
    exact ⟨⟨by omega, by omega⟩, ⟨by simp, h2⟩, by omega⟩
  · rintro ⟨⟨_, h1⟩, ⟨_, h2⟩, _⟩
    exact ⟨by omega, h2⟩
/-- the first fault among events -/
def firstF : List Evt → Int
  | [] => 0
  | e :: t => if encF e.ty.toList e.tm e.vals = 0 then firstF t else encF e.ty.toList e.tm e.vals
/-- what Pack answers: the fault -/
def packF (es : List Evt) : Int := if 1024 < es.length then 2 else if firstF es = 0 then (if 1048576 < (bodyW es).length + 4 then 2 else 0) else firstF es
def packW (es : List Evt) : List UInt8 := bodyW es ++ sumW (bodyW es)
theorem sumW_len (l : List UInt8) : (sumW l).length = 4 := rfl
/-- what Unpack answers -/
def unpackR (l : List UInt8) : Res (List Evt) :=
  if 1048576 < l.length then .bad 2 else if l.length < 5 then .bad 30 else if sumW (l.take (l.length - 4)) = l.drop (l.length - 4) then
    match bodyR (l.take (l.length - 4)) with
    | .bad E => .bad E
    | .ok es k => if k = l.length - 4 then .ok es 0 else .bad 31
  else .bad 32
theorem firstF_ok {es : List Evt} (h : firstF es = 0) : ∀ e ∈ es, encF e.ty.toList e.tm e.vals = 0 := by
  induction es with
  | nil => intro e he; cases he
  | cons x t ih =>
    unfold firstF at h
    split at h
    · rename_i hx
      intro e he
      rcases List.mem_cons.1 he with rfl | he
      · exact hx
      · exact ih h e he
    · rename_i hx
      exact absurd h hx
theorem firstF_of {es : List Evt} (h : ∀ e ∈ es, OkE e) : firstF es = 0 := by
  induction es with
  | nil => rfl
  | cons x t ih =>
    unfold firstF
    rw [if_pos (encF_ok (h x (by simp)))]
    exact ih fun e he => h e (by simp [he])
/-- what is written is read -/
theorem unpack_pack {es : List Evt} (h : packF es = 0) (hi : ∀ e ∈ es, ∀ v ∈ e.vals, In4 v) : unpackR (packW es) = .ok es 0 := by
  unfold packF at h
  split at h
  · cases h
  · rename_i h1
    split at h
    · rename_i h2
      split at h
      · cases h
      · rename_i h3
        have hok : OkB es := ⟨by omega, fun e he => ok_of (firstF_ok h2 e he) (hi e he)⟩
        have hp : 1 ≤ (bodyW es).length := by
          have : (put (es.length : Int)).length ≤ (bodyW es).length := by unfold bodyW; rw [List.length_append]; omega
          have h5 := grp_pos (zig (es.length : Int))
          unfold put at this
          omega
        have hl : (packW es).length = (bodyW es).length + 4 := by unfold packW; rw [List.length_append, sumW_len]
        have ht : (packW es).take ((packW es).length - 4) = bodyW es := by rw [hl]; unfold packW; simp
        have hd : (packW es).drop ((packW es).length - 4) = sumW (bodyW es) := by rw [hl]; unfold packW; simp
        have hb := bodyR_form.there es hok []
        rw [List.append_nil] at hb
        unfold unpackR
        rw [if_neg (by omega), if_neg (by omega), ht, hd, if_pos rfl, hb]
        simp only
        rw [if_pos (by omega)]
    · rename_i h2
      exact absurd h h2
/-- what is read is what would be written -/
theorem pack_unpack {l : List UInt8} {es : List Evt} {k : Nat} (h : unpackR l = .ok es k) : packF es = 0 ∧ packW es = l ∧ OkB es := by
  unfold unpackR at h
  split at h
  · cases h
  · rename_i h1
    split at h
    · cases h
    · rename_i h2
      split at h
      · rename_i h3
        cases hb : bodyR (l.take (l.length - 4)) with
        | bad E => rw [hb] at h; cases h
        | ok es' j =>
          rw [hb] at h
          simp only at h
          split at h
          · rename_i h4
            simp only [Res.ok.injEq] at h
            obtain ⟨rfl, rfl⟩ := h
            obtain ⟨hok, _, htk⟩ := bodyR_form.back _ es' j hb
            rw [h4, List.take_of_length_le (by rw [List.length_take]; omega)] at htk
            have hw : packW es' = l := by
              unfold packW
              rw [← htk, h3, List.take_append_drop]
            refine ⟨?_, hw, hok⟩
            have hlen : (bodyW es').length + 4 = l.length := by rw [← htk, List.length_take]; omega
            unfold packF
            rw [if_neg (by have := hok.1; omega), if_pos (firstF_of hok.2), if_neg (by omega)]
          · cases h
      · cases h
end Go.Proofs.YtlinpkmfjkcoiaaDoor
