/- Events as bytes: plain facts: their forms, how they are read, that each has one form only. -/
import Derived.Test.YtlinpkmfjkcoiaaDoorA3
import Derived.Test.YtlinpkmfjkcoiaaDoorB1
import Derived.Test.YtlinpkmfjkcoiaaDoorM1
namespace Go.Proofs.YtlinpkmfjkcoiaaDoor
open Go Go.RowKit
/-- a value, as its four parts -/
structure V4 where
  k : Int
  n : Int
  s : ByteArray
  b : Bool
set_option maxHeartbeats 1000000
set_option linter.unusedVariables false
theorem toList_mk (l : List UInt8) : (⟨l.toArray⟩ : ByteArray).toList = l := by rw [ByteArray.toList_eq]
theorem mk_toList (s : ByteArray) : (⟨s.toList.toArray⟩ : ByteArray) = s := by rw [ByteArray.toList_eq]
/-- an event -/
structure Evt where
  ty : ByteArray
  tm : Int
  vals : List V4
/-- a value's form -/
def valW (v : V4) : List UInt8 := UInt8.ofNat v.k.toNat :: (if v.k = 1 then put v.n else if v.k = 2 then textW v.s.toList else [if v.b then 1 else 0])
def valsW (vl : List V4) : List UInt8 := vl.flatMap valW
/-- an event's form -/
def evtW (e : Evt) : List UInt8 := textW e.ty.toList ++ (put e.tm ++ (put e.vals.length ++ valsW e.vals))
/-- a number within bounds -/
def numW (lo hi : Int) : Rd Int := num.only fun n => decide (lo ≤ n) && decide (n ≤ hi)
def byteW (lo hi : Nat) : Rd UInt8 := oneR.only fun b => decide (lo ≤ b.toNat) && decide (b.toNat ≤ hi)
/-- what of a value stands behind its kind -/
def restR (k : UInt8) : Rd V4 := if k.toNat = 1 then num.map (fun n => ⟨1, n, ⟨#[]⟩, false⟩) else if k.toNat = 2 then (text 0 256).map (fun l => ⟨2, 0, ⟨l.toArray⟩, false⟩) else (byteW 0 1).map (fun x => ⟨3, 0, ⟨#[]⟩, x.toNat == 1⟩)
def valR : Rd V4 := (byteW 1 3).andThen restR
def valsR : Nat → Rd (List V4)
  | 0 => fun _ => .ok [] 0
  | n + 1 => valR.andThen fun v => (valsR n).map (v :: ·)
def evtR : Rd Evt := ((text 1 32).only nameL).andThen fun ty => (numW 0 4611686018427387904).andThen fun tm => (numW 0 16).andThen fun n => (valsR n.toNat).map fun vl => ⟨⟨ty.toArray⟩, tm, vl⟩
/-- may that value be? -/
def Ok4 (v : V4) : Prop := valid v.k v.n v.s v.b = true
theorem ok_cases {v : V4} (h : Ok4 v) : (∃ n, v = ⟨1, n, ⟨#[]⟩, false⟩) ∨ (∃ s : ByteArray, s.size ≤ 256 ∧ v = ⟨2, 0, s, false⟩) ∨ ∃ b, v = ⟨3, 0, ⟨#[]⟩, b⟩ := by
  obtain ⟨k, n, s, b⟩ := v
  unfold Ok4 valid at h
  simp only at h
  split at h
  · rename_i hk
    subst hk
    simp only [veq, Bool.and_eq_true, beq_iff_eq] at h
    obtain ⟨_, _, h3, h4⟩ := h
    refine .inl ⟨n, ?_⟩
    rw [h4, ← mk_toList s, h3, mk_toList]
  · split at h
    · rename_i hk
      subst hk
      simp only [veq, Bool.and_eq_true, beq_iff_eq, decide_eq_true_eq] at h
      obtain ⟨⟨_, h2, _, h4⟩, h5⟩ := h
      exact .inr (.inl ⟨s, by omega, by rw [h2, h4]⟩)
    · split at h
      · rename_i hk
        subst hk
        simp only [veq, Bool.and_eq_true, beq_iff_eq] at h
        obtain ⟨_, h2, h3, _⟩ := h
        refine .inr (.inr ⟨b, ?_⟩)
        rw [h2, ← mk_toList s, h3, mk_toList]
      · cases h
theorem ok_int (n : Int) : Ok4 ⟨1, n, ⟨#[]⟩, false⟩ := by simp [Ok4, valid, veq]
theorem ok_str {s : ByteArray} (h : s.size ≤ 256) : Ok4 ⟨2, 0, s, false⟩ := by simp [Ok4, valid, veq]; omega
theorem ok_bool (b : Bool) : Ok4 ⟨3, 0, ⟨#[]⟩, b⟩ := by simp [Ok4, valid, veq]
/-- the value's number is one of 64 bits -/
def In4 (v : V4) : Prop := I64 v.n
theorem byteW_form (lo hi : Nat) : Form (byteW lo hi) (fun b => [b]) (fun b => lo ≤ b.toNat ∧ b.toNat ≤ hi) :=
  (oneR_form.only _).congr (fun _ => rfl) (fun v => by simp) (fun _ _ => rfl)
theorem numW_form (lo hi : Int) (h0 : -9223372036854775808 ≤ lo) (h1 : hi ≤ 9223372036854775807) : Form (numW lo hi) put (fun n => lo ≤ n ∧ n ≤ hi) :=
  (num_form.only _).congr (fun _ => rfl) (fun v => by simp [I64]; omega) (fun _ _ => rfl)
theorem len_mk (l : List UInt8) : (⟨l.toArray⟩ : ByteArray).size = l.length := by simp [ByteArray.size]
theorem size_toList (s : ByteArray) : s.toList.length = s.size := by rw [ByteArray.toList_eq]; simp
theorem valR_form : Form valR valW (fun v => Ok4 v ∧ In4 v) := by
  have hr : ∀ k : UInt8, (1 ≤ k.toNat ∧ k.toNat ≤ 3) → Form (restR k) (fun v => (valW v).tail) (fun v => (Ok4 v ∧ In4 v) ∧ v.k = k.toNat) := by
    intro k hk
    unfold restR
    have hc : k.toNat = 1 ∨ k.toNat = 2 ∨ k.toNat = 3 := by omega
    rcases hc with hc | hc | hc
    · rw [if_pos hc]
      refine (num_form.map _ (fun v => (valW v).tail) (fun a _ => by simp [valW])).congr (fun _ => rfl) (fun v => ?_) (fun _ _ => rfl)
      rw [hc]
      constructor
      · rintro ⟨⟨h1, h2⟩, h3⟩
        rcases ok_cases h1 with ⟨n, rfl⟩ | ⟨s, hs, rfl⟩ | ⟨b, rfl⟩
        · exact ⟨n, h2, rfl⟩
        · simp at h3
        · simp at h3
      · rintro ⟨n, h1, rfl⟩
        exact ⟨⟨ok_int n, h1⟩, rfl⟩
    · rw [if_neg (by omega), if_pos hc]
      refine ((text_form 0 256 (by omega) (by omega)).map _ (fun v => (valW v).tail) (fun a _ => by simp [valW])).congr (fun _ => rfl) (fun v => ?_) (fun _ _ => rfl)
      rw [hc]
      constructor
      · rintro ⟨⟨h1, h2⟩, h3⟩
        rcases ok_cases h1 with ⟨n, rfl⟩ | ⟨s, hs, rfl⟩ | ⟨b, rfl⟩
        · simp at h3
        · exact ⟨s.toList, by rw [size_toList]; omega, by rw [mk_toList]⟩
        · simp at h3
      · rintro ⟨l, h1, rfl⟩
        exact ⟨⟨ok_str (by rw [len_mk]; omega), by simp [In4, I64]⟩, rfl⟩
    · rw [if_neg (by omega), if_neg (by omega)]
      refine ((byteW_form 0 1).map _ (fun v => (valW v).tail) (fun a ha => ?_)).congr (fun _ => rfl) (fun v => ?_) (fun _ _ => rfl)
      · have h01 : a.toNat = 0 ∨ a.toNat = 1 := by omega
        simp only [valW]
        rcases h01 with h | h
        · rw [byte_eq h]; rfl
        · rw [byte_eq h]; rfl
      · rw [hc]
        constructor
        · rintro ⟨⟨h1, h2⟩, h3⟩
          rcases ok_cases h1 with ⟨n, rfl⟩ | ⟨s, hs, rfl⟩ | ⟨b, rfl⟩
          · simp at h3
          · simp at h3
          · cases b
            · exact ⟨0, by decide, rfl⟩
            · exact ⟨1, by decide, rfl⟩
        · rintro ⟨x, h1, rfl⟩
          exact ⟨⟨ok_bool _, by simp [In4, I64]⟩, rfl⟩
  refine ((byteW_form 1 3).andThen (f := restR) (wb := fun v => (valW v).tail) (wr := valW) (Db := fun k v => (Ok4 v ∧ In4 v) ∧ v.k = k.toNat) (fun v => UInt8.ofNat v.k.toNat) hr (fun v => rfl) (fun a u hu => ?_)).congr (fun _ => rfl) (fun v => ?_) (fun _ _ => rfl)
  · rw [hu.2, Int.toNat_natCast, ← byte_eq rfl]
  · constructor
    · rintro ⟨h1, h2⟩
      have hk : v.k = 1 ∨ v.k = 2 ∨ v.k = 3 := by
        rcases ok_cases h1 with ⟨n, rfl⟩ | ⟨s, hs, rfl⟩ | ⟨b, rfl⟩ <;> simp
      rw [ofNat_small (by omega)]
      exact ⟨by omega, ⟨h1, h2⟩, by omega⟩
    · rintro ⟨_, h, _⟩
      exact h
theorem valsR_form : ∀ n, Form (valsR n) valsW (fun vl => vl.length = n ∧ ∀ v ∈ vl, Ok4 v ∧ In4 v)
  | 0 => by
    constructor
    · rintro v ⟨hv, _⟩ t
      obtain rfl := List.eq_nil_of_length_eq_zero hv
      rfl
    · intro l v k hk
      simp only [valsR, Res.ok.injEq] at hk
      obtain ⟨rfl, rfl⟩ := hk
      exact ⟨⟨rfl, by simp⟩, Nat.zero_le _, rfl⟩
    · rintro v ⟨hv, _⟩ i hi
      obtain rfl := List.eq_nil_of_length_eq_zero hv
      exact absurd hi (Nat.not_lt_zero _)
  | n + 1 => by
    have ih := valsR_form n
    refine (valR_form.andThen (f := fun v => (valsR n).map (v :: ·)) (wb := fun vl => valsW vl.tail) (wr := fun vl => match vl with | [] => valW ⟨0, 0, ⟨#[]⟩, false⟩ | v :: t => valW v ++ valsW t) (Db := fun v vl => ∃ t, (t.length = n ∧ ∀ v ∈ t, Ok4 v ∧ In4 v) ∧ vl = v :: t) (fun vl => vl.headD ⟨0, 0, ⟨#[]⟩, false⟩)
      (fun a ha => ih.map _ (fun vl : List V4 => valsW vl.tail) (fun t _ => rfl)) (fun u => by cases u <;> simp [valsW]) (fun a u hu => by obtain ⟨t, _, rfl⟩ := hu; rfl)).congr (fun _ => rfl) (fun vl => ?_) (fun vl hvl => ?_)
    · constructor
      · rintro ⟨h1, h2⟩
        cases vl with
        | nil => cases h1
        | cons v t => exact ⟨h2 v (by simp), t, ⟨by simpa using h1, fun u hu => h2 u (by simp [hu])⟩, rfl⟩
      · rintro ⟨h1, t, ⟨h2, h3⟩, e⟩
        generalize vl.headD ⟨0, 0, ⟨#[]⟩, false⟩ = v at h1 e
        subst e
        refine ⟨by simp [h2], fun u hu => ?_⟩
        simp only [List.mem_cons] at hu
        rcases hu with rfl | hu
        · exact h1
        · exact h3 u hu
    · obtain ⟨h1, t, _, e⟩ := hvl
      generalize vl.headD ⟨0, 0, ⟨#[]⟩, false⟩ = v at h1 e
      subst e
      simp [valsW]
/-- may that event be? -/
def OkE (e : Evt) : Prop := nameL e.ty.toList = true ∧ (0 ≤ e.tm ∧ e.tm ≤ 4611686018427387904) ∧ e.vals.length ≤ 16 ∧ ∀ v ∈ e.vals, Ok4 v ∧ In4 v
theorem evtR_form (hnm : ∀ l, nameL l = true → 1 ≤ l.length ∧ l.length ≤ 32) : Form evtR evtW OkE := by
  have f3 : ∀ (ty : List UInt8) (tm : Int) (n : Int), (0 ≤ n ∧ n ≤ 16) → Form ((valsR n.toNat).map fun vl => (⟨⟨ty.toArray⟩, tm, vl⟩ : Evt)) (fun e => valsW e.vals) (fun e => ∃ vl, (vl.length = n.toNat ∧ ∀ v ∈ vl, Ok4 v ∧ In4 v) ∧ e = ⟨⟨ty.toArray⟩, tm, vl⟩) :=
    fun ty tm n _ => (valsR_form n.toNat).map _ _ (fun vl _ => rfl)
  have f2 : ∀ (ty : List UInt8) (tm : Int), Form ((numW 0 16).andThen fun n => (valsR n.toNat).map fun vl => (⟨⟨ty.toArray⟩, tm, vl⟩ : Evt)) (fun e => put e.vals.length ++ valsW e.vals) (fun e => (0 ≤ (e.vals.length : Int) ∧ (e.vals.length : Int) ≤ 16) ∧ (∃ vl, (vl.length = (e.vals.length : Int).toNat ∧ ∀ v ∈ vl, Ok4 v ∧ In4 v) ∧ e = ⟨⟨ty.toArray⟩, tm, vl⟩) ∧ 0 ≤ (e.vals.length : Int)) :=
    fun ty tm => (numW_form 0 16 (by omega) (by omega)).andThen (f := fun n => (valsR n.toNat).map fun vl => (⟨⟨ty.toArray⟩, tm, vl⟩ : Evt)) (wb := fun e => valsW e.vals) (wr := fun e => put e.vals.length ++ valsW e.vals) (Db := fun n e => (∃ vl, (vl.length = n.toNat ∧ ∀ v ∈ vl, Ok4 v ∧ In4 v) ∧ e = ⟨⟨ty.toArray⟩, tm, vl⟩) ∧ 0 ≤ n) (fun e => (e.vals.length : Int))
      (fun n hn => (f3 ty tm n hn).congr (fun _ => rfl) (fun v => ⟨fun h => h.1, fun h => ⟨h, hn.1⟩⟩) (fun _ _ => rfl)) (fun _ => rfl) (fun n e hu => by obtain ⟨⟨vl, ⟨h1, _⟩, rfl⟩, h0⟩ := hu; simp only; omega)
  have f1 : ∀ (ty : List UInt8), Form ((numW 0 4611686018427387904).andThen fun tm => (numW 0 16).andThen fun n => (valsR n.toNat).map fun vl => (⟨⟨ty.toArray⟩, tm, vl⟩ : Evt)) (fun e => put e.tm ++ (put e.vals.length ++ valsW e.vals)) (fun e => (0 ≤ e.tm ∧ e.tm ≤ 4611686018427387904) ∧ ((0 ≤ (e.vals.length : Int) ∧ (e.vals.length : Int) ≤ 16) ∧ (∃ vl, (vl.length = (e.vals.length : Int).toNat ∧ ∀ v ∈ vl, Ok4 v ∧ In4 v) ∧ e = ⟨⟨ty.toArray⟩, e.tm, vl⟩) ∧ 0 ≤ (e.vals.length : Int))) :=
    fun ty => (numW_form 0 4611686018427387904 (by omega) (by omega)).andThen (f := fun tm => (numW 0 16).andThen fun n => (valsR n.toNat).map fun vl => (⟨⟨ty.toArray⟩, tm, vl⟩ : Evt)) (wb := fun e => put e.vals.length ++ valsW e.vals) (wr := fun e => put e.tm ++ (put e.vals.length ++ valsW e.vals)) (Db := fun tm e => (0 ≤ (e.vals.length : Int) ∧ (e.vals.length : Int) ≤ 16) ∧ (∃ vl, (vl.length = (e.vals.length : Int).toNat ∧ ∀ v ∈ vl, Ok4 v ∧ In4 v) ∧ e = ⟨⟨ty.toArray⟩, tm, vl⟩) ∧ 0 ≤ (e.vals.length : Int)) (fun e => e.tm)
      (fun tm _ => f2 ty tm) (fun _ => rfl) (fun n e hu => by obtain ⟨_, ⟨vl, _, h⟩, _⟩ := hu; rw [h])
  have f0 := ((text_form 1 32 (by omega) (by omega)).only nameL).andThen (f := fun ty => (numW 0 4611686018427387904).andThen fun tm => (numW 0 16).andThen fun n => (valsR n.toNat).map fun vl => (⟨⟨ty.toArray⟩, tm, vl⟩ : Evt)) (wb := fun e => put e.tm ++ (put e.vals.length ++ valsW e.vals)) (wr := evtW) (Db := fun ty e => (0 ≤ e.tm ∧ e.tm ≤ 4611686018427387904) ∧ ((0 ≤ (e.vals.length : Int) ∧ (e.vals.length : Int) ≤ 16) ∧ (∃ vl, (vl.length = (e.vals.length : Int).toNat ∧ ∀ v ∈ vl, Ok4 v ∧ In4 v) ∧ e = ⟨⟨ty.toArray⟩, e.tm, vl⟩) ∧ 0 ≤ (e.vals.length : Int))) (fun e => e.ty.toList)
    (fun ty _ => f1 ty) (fun _ => rfl) (fun ty e hu => by obtain ⟨_, _, ⟨vl, _, h⟩, _⟩ := hu; rw [h]; exact toList_mk ty)
  refine f0.congr (fun _ => rfl) (fun e => ?_) (fun _ _ => rfl)
  unfold OkE
  constructor
  · rintro ⟨h1, h2, h3, h4⟩
    have := hnm _ h1
    exact ⟨⟨⟨by omega, by omega⟩, h1⟩, h2, ⟨by omega, by omega⟩, ⟨e.vals, ⟨by simp, h4⟩, by rw [mk_toList]⟩, by omega⟩
  · rintro ⟨⟨_, h1⟩, h2, ⟨_, h3⟩, ⟨vl, ⟨h4, h5⟩, h6⟩, _⟩
    refine ⟨h1, h2, by omega, ?_⟩
    have : e.vals = vl := by rw [h6]
    rw [this]
    exact h5
end Go.Proofs.YtlinpkmfjkcoiaaDoor
