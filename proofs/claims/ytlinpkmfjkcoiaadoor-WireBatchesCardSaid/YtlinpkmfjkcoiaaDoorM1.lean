/- Numbers as bytes: plain facts: a number's form, how it is read, that each number has one form only. -/
import Derived.Lib.UnsafeStr
namespace Go.Proofs.YtlinpkmfjkcoiaaDoor
set_option maxHeartbeats 400000
set_option linter.unusedVariables false
/-- the negative numbers between the others -/
def zig (n : Int) : Nat := if n < 0 then (-2 * n - 1).toNat else (2 * n).toNat
def zag (z : Nat) : Int := if z % 2 = 1 then -((z / 2 : Nat) : Int) - 1 else ((z / 2 : Nat) : Int)
theorem zag_zig (n : Int) : zag (zig n) = n := by
  unfold zag zig
  by_cases h : n < 0
  · rw [if_pos h, if_pos (by omega)]; omega
  · rw [if_neg h, if_neg (by omega)]; omega
theorem zig_zag (z : Nat) : zig (zag z) = z := by
  unfold zag zig
  by_cases h : z % 2 = 1
  · rw [if_pos h, if_pos (by omega)]; omega
  · rw [if_neg h, if_neg (by omega)]; omega
theorem zig_lt {n : Int} (h0 : -9223372036854775808 ≤ n) (h1 : n ≤ 9223372036854775807) : zig n < 18446744073709551616 := by
  unfold zig; split <;> omega
theorem zag_in {z : Nat} (h : z < 18446744073709551616) : -9223372036854775808 ≤ zag z ∧ zag z ≤ 9223372036854775807 := by
  unfold zag; split <;> omega
/-- groups of seven bits, the lowest first -/
def grp (z : Nat) : List UInt8 := if h : z < 128 then [UInt8.ofNat z] else UInt8.ofNat (z % 128 + 128) :: grp (z / 128)
termination_by z
theorem grp_small {z : Nat} (h : z < 128) : grp z = [UInt8.ofNat z] := by rw [grp, dif_pos h]
theorem grp_big {z : Nat} (h : ¬ z < 128) : grp z = UInt8.ofNat (z % 128 + 128) :: grp (z / 128) := by rw [grp, dif_neg h]
theorem grp_pos (z : Nat) : 1 ≤ (grp z).length := by
  by_cases h : z < 128
  · rw [grp_small h]; simp
  · rw [grp_big h]; simp
theorem grp_len : ∀ (i : Nat) (z : Nat), z < 128 ^ (i + 1) → (grp z).length ≤ i + 1
  | 0, z, h => by rw [grp_small (by simpa using h)]; simp
  | i + 1, z, h => by
    by_cases hz : z < 128
    · rw [grp_small hz]; simp
    · rw [grp_big hz, List.length_cons]
      have := grp_len i (z / 128) (by rw [Nat.div_lt_iff_lt_mul (by omega)]; rw [Nat.pow_succ] at h; exact h)
      omega
theorem grp_len10 {z : Nat} (h : z < 18446744073709551616) : (grp z).length ≤ 10 := grp_len 9 z (Nat.lt_of_lt_of_le h (by decide))
/-- a number's form -/
def put (n : Int) : List UInt8 := grp (zig n)
/-- what is read: a fault, or a thing and how many bytes it has -/
inductive Res (α : Type) where
  | bad (e : Int)
  | ok (v : α) (k : Nat)
/-- a number's groups, i of them read before -/
def rdz (i : Nat) : List UInt8 → Res Nat
  | [] => .bad 30
  | b :: t => if i = 9 ∧ 1 < b.toNat then .bad 31 else if b.toNat < 128 then (if b.toNat = 0 ∧ i ≠ 0 then .bad 31 else .ok b.toNat 1) else
    match rdz (i + 1) t with
    | .bad e => .bad e
    | .ok z k => .ok (b.toNat % 128 + 128 * z) (k + 1)
theorem ofNat_small {z : Nat} (h : z < 256) : (UInt8.ofNat z).toNat = z := by simp [UInt8.toNat_ofNat']; omega
theorem byte_eq {b : UInt8} {z : Nat} (h : b.toNat = z) : b = UInt8.ofNat z := by
  have := b.toNat_lt
  exact UInt8.toNat_inj.1 (by rw [ofNat_small (by omega), h])
/-- 128 to so many groups as are left behind i of them, of 64 bits -/
def room (i : Nat) : Nat := 18446744073709551616 / 128 ^ i
theorem room_succ (i : Nat) : room (i + 1) = room i / 128 := by
  unfold room
  rw [Nat.pow_succ, Nat.div_div_eq_div_mul]
theorem room9 : room 9 = 2 := by decide
theorem room_lt {i z : Nat} (hi : i < 9) (h : z < room i) : z / 128 < room (i + 1) := by
  have hr : ∀ j : Fin 9, room j.val % 128 = 0 := by decide
  have := hr ⟨i, hi⟩
  simp only at this
  rw [room_succ]
  omega
theorem rdz_put : ∀ (n i z : Nat) (t : List UInt8), n = 9 - i → i ≤ 9 → z < room i → (i = 0 ∨ z ≠ 0) → rdz i (grp z ++ t) = .ok z (grp z).length := by
  intro n
  induction n with
  | zero =>
    intro i z t hn hi hz h0
    have h9 : i = 9 := by omega
    subst h9
    rw [room9] at hz
    rw [grp_small (by omega)]
    simp only [rdz, List.cons_append, List.nil_append]
    rw [ofNat_small (by omega), if_neg (by omega), if_pos (by omega), if_neg (by omega)]
    rfl
  | succ n ih =>
    intro i z t hn hi hz h0
    by_cases hs : z < 128
    · rw [grp_small hs]
      simp only [rdz, List.cons_append, List.nil_append]
      rw [ofNat_small (by omega), if_neg (by omega), if_pos (by omega), if_neg (by omega)]
      rfl
    · rw [grp_big hs]
      simp only [rdz, List.cons_append]
      rw [ofNat_small (by omega), if_neg (by omega), if_neg (by omega), ih (i + 1) (z / 128) t (by omega) (by omega) (room_lt (by omega) hz) (by omega)]
      simp only [List.length_cons, Res.ok.injEq, and_true]
      omega
theorem rdz_back : ∀ (l : List UInt8) (i z k : Nat), i ≤ 9 → rdz i l = .ok z k → k ≤ l.length ∧ l.take k = grp z ∧ z < room i ∧ (i = 0 ∨ z ≠ 0) := by
  intro l
  induction l with
  | nil => intro i z k hi h; cases h
  | cons b t ih =>
    intro i z k hi h
    have hr : ∀ j : Fin 10, (j.val = 9 ∧ room j.val = 2) ∨ (j.val < 9 ∧ 128 ≤ room j.val ∧ room j.val % 128 = 0) := by decide
    have hr' := hr ⟨i, by omega⟩
    simp only at hr'
    simp only [rdz] at h
    split at h
    · cases h
    · rename_i h1
      split at h
      · rename_i h2
        split at h
        · cases h
        · rename_i h3
          simp only [Res.ok.injEq] at h
          obtain ⟨rfl, rfl⟩ := h
          refine ⟨by simp, ?_, by omega, by omega⟩
          rw [grp_small h2, List.take_succ_cons, List.take_zero, ← byte_eq rfl]
      · rename_i h2
        have hb := b.toNat_lt
        have hi9 : i < 9 := by omega
        split at h
        · cases h
        · rename_i z' k' hz
          simp only [Res.ok.injEq] at h
          obtain ⟨rfl, rfl⟩ := h
          obtain ⟨a1, a2, a3, a4⟩ := ih (i + 1) z' k' (by omega) hz
          rw [room_succ] at a3
          refine ⟨by simp; omega, ?_, by omega, by omega⟩
          rw [grp_big (by omega), List.take_succ_cons, a2]
          rw [show (b.toNat % 128 + 128 * z') % 128 = b.toNat % 128 by omega, show (b.toNat % 128 + 128 * z') / 128 = z' by omega, ← byte_eq (b := b) (z := b.toNat % 128 + 128) (by omega)]
theorem rdz_short : ∀ (n i z j : Nat), n = 9 - i → i ≤ 9 → z < room i → j < (grp z).length → rdz i ((grp z).take j) = .bad 30 := by
  intro n
  induction n with
  | zero =>
    intro i z j hn hi hz hj
    have h9 : i = 9 := by omega
    subst h9
    rw [room9] at hz
    rw [grp_small (by omega)] at hj ⊢
    simp only [List.length_singleton] at hj
    obtain rfl : j = 0 := by omega
    rfl
  | succ n ih =>
    intro i z j hn hi hz hj
    by_cases hs : z < 128
    · rw [grp_small hs] at hj ⊢
      simp only [List.length_singleton] at hj
      obtain rfl : j = 0 := by omega
      rfl
    · rw [grp_big hs] at hj ⊢
      cases j with
      | zero => rfl
      | succ j =>
        rw [List.take_succ_cons]
        simp only [rdz]
        rw [ofNat_small (by omega), if_neg (by omega), if_neg (by omega), ih (i + 1) (z / 128) j (by omega) (by omega) (room_lt (by omega) hz) (by simpa using hj)]
/-! ### What reads: laws -/
abbrev Rd (α : Type) := List UInt8 → Res α
/-- what is written is read back, what is read is what would be written, less of it ends too early -/
structure Form {α : Type} (p : Rd α) (wr : α → List UInt8) (D : α → Prop) : Prop where
  there : ∀ v, D v → ∀ t, p (wr v ++ t) = .ok v (wr v).length
  back : ∀ l v k, p l = .ok v k → D v ∧ k ≤ l.length ∧ l.take k = wr v
  short : ∀ v, D v → ∀ i, i < (wr v).length → p ((wr v).take i) = .bad 30
def I64 (n : Int) : Prop := -9223372036854775808 ≤ n ∧ n ≤ 9223372036854775807
/-- a number -/
def num : Rd Int := fun l => match rdz 0 l with
  | .bad e => .bad e
  | .ok z k => .ok (zag z) k
theorem room0 : room 0 = 18446744073709551616 := by decide
theorem num_form : Form num put I64 := by
  constructor
  · intro n hn t
    unfold num put
    rw [rdz_put 9 0 (zig n) t rfl (by omega) (by rw [room0]; exact zig_lt hn.1 hn.2) (.inl rfl)]
    simp only [zag_zig]
  · intro l n k h
    unfold num at h
    split at h
    · cases h
    · rename_i z k' hz
      simp only [Res.ok.injEq] at h
      obtain ⟨rfl, rfl⟩ := h
      obtain ⟨a1, a2, a3, _⟩ := rdz_back l 0 z k' (by omega) hz
      rw [room0] at a3
      exact ⟨zag_in a3, a1, by rw [a2]; unfold put; rw [zig_zag]⟩
  · intro n hn i hi
    unfold num put
    unfold put at hi
    rw [rdz_short 9 0 (zig n) i rfl (by omega) (by rw [room0]; exact zig_lt hn.1 hn.2) hi]
/-- only such as pass -/
def Rd.only {α : Type} (p : Rd α) (c : α → Bool) : Rd α := fun l => match p l with
  | .bad e => .bad e
  | .ok v k => if c v then .ok v k else .bad 31
theorem Form.only {α : Type} {p : Rd α} {wr : α → List UInt8} {D : α → Prop} (h : Form p wr D) (c : α → Bool) : Form (p.only c) wr (fun v => D v ∧ c v = true) := by
  constructor
  · intro v hv t
    unfold Rd.only
    rw [h.there v hv.1 t]
    simp only [hv.2, if_true]
  · intro l v k hk
    unfold Rd.only at hk
    split at hk
    · cases hk
    · rename_i v' k' hp
      split at hk
      · rename_i hc
        simp only [Res.ok.injEq] at hk
        obtain ⟨rfl, rfl⟩ := hk
        obtain ⟨a, b, c⟩ := h.back l v' k' hp
        exact ⟨⟨a, hc⟩, b, c⟩
      · cases hk
  · intro v hv i hi
    unfold Rd.only
    rw [h.short v hv.1 i hi]
/-- one behind the other -/
def Rd.andThen {α β : Type} (p : Rd α) (f : α → Rd β) : Rd β := fun l => match p l with
  | .bad e => .bad e
  | .ok v k => match f v (l.drop k) with
    | .bad e => .bad e
    | .ok u j => .ok u (k + j)
theorem Form.andThen {α β : Type} {p : Rd α} {wa : α → List UInt8} {Da : α → Prop} (h : Form p wa Da) {f : α → Rd β} {wb wr : β → List UInt8} {Db : α → β → Prop} (g : β → α)
    (hf : ∀ a, Da a → Form (f a) wb (Db a)) (hw : ∀ u, wr u = wa (g u) ++ wb u) (hg : ∀ a u, Db a u → g u = a) : Form (p.andThen f) wr (fun u => Da (g u) ∧ Db (g u) u) := by
  constructor
  · intro u hu t
    unfold Rd.andThen
    rw [hw, List.append_assoc, h.there _ hu.1]
    simp only
    rw [List.drop_left, (hf _ hu.1).there u hu.2 t]
    simp
  · intro l u k hk
    unfold Rd.andThen at hk
    split at hk
    · cases hk
    · rename_i v k1 hp
      split at hk
      · cases hk
      · rename_i u' j hq
        simp only [Res.ok.injEq] at hk
        obtain ⟨rfl, rfl⟩ := hk
        obtain ⟨a1, a2, a3⟩ := h.back l v k1 hp
        obtain ⟨b1, b2, b3⟩ := (hf v a1).back _ u' j hq
        have e := hg v u' b1
        subst e
        refine ⟨⟨a1, b1⟩, by simp at b2; omega, ?_⟩
        rw [List.take_add, a3, b3, hw]
  · intro u hu i hi
    unfold Rd.andThen
    rw [hw] at hi ⊢
    by_cases hlt : i < (wa (g u)).length
    · rw [List.take_append_of_le_length (by omega), h.short _ hu.1 i hlt]
    · have e : (wa (g u) ++ wb u).take i = wa (g u) ++ (wb u).take (i - (wa (g u)).length) := by
        rw [List.take_append, List.take_of_length_le (by omega)]
      rw [e, h.there _ hu.1]
      simp only
      rw [List.drop_left, (hf _ hu.1).short u hu.2 _ (by simp at hi; omega)]
/-- another name for what was read -/
theorem Form.congr {α : Type} {p q : Rd α} {wr wr' : α → List UInt8} {D D' : α → Prop} (h : Form p wr D) (hp : ∀ l, q l = p l) (hD : ∀ v, D' v ↔ D v) (hw : ∀ v, D v → wr' v = wr v) : Form q wr' D' := by
  constructor
  · intro v hv t
    have hd := (hD v).1 hv
    rw [hp, hw v hd]
    exact h.there v hd t
  · intro l v k hk
    rw [hp] at hk
    obtain ⟨a, b, c⟩ := h.back l v k hk
    exact ⟨(hD v).2 a, b, by rw [hw v a]; exact c⟩
  · intro v hv i hi
    have hd := (hD v).1 hv
    rw [hw v hd] at hi ⊢
    rw [hp]
    exact h.short v hd i hi
def Rd.map {α β : Type} (p : Rd α) (g : α → β) : Rd β := fun l => match p l with
  | .bad e => .bad e
  | .ok v k => .ok (g v) k
theorem Form.map {α β : Type} {p : Rd α} {wr : α → List UInt8} {D : α → Prop} (h : Form p wr D) (g : α → β) (wr' : β → List UInt8) (hw : ∀ a, D a → wr' (g a) = wr a) : Form (p.map g) wr' (fun u => ∃ a, D a ∧ u = g a) := by
  constructor
  · rintro u ⟨a, ha, rfl⟩ t
    unfold Rd.map
    rw [hw a ha, h.there a ha t]
  · intro l u k hk
    unfold Rd.map at hk
    split at hk
    · cases hk
    · rename_i v k' hp
      simp only [Res.ok.injEq] at hk
      obtain ⟨rfl, rfl⟩ := hk
      obtain ⟨a, b, c⟩ := h.back l v k' hp
      exact ⟨⟨v, a, rfl⟩, b, by rw [hw v a]; exact c⟩
  · rintro u ⟨a, ha, rfl⟩ i hi
    unfold Rd.map
    rw [hw a ha] at hi ⊢
    rw [h.short a ha i hi]
/-- so many bytes -/
def takeN (n : Nat) : Rd (List UInt8) := fun l => if n ≤ l.length then .ok (l.take n) n else .bad 30
theorem takeN_form (n : Nat) : Form (takeN n) (fun l => l) (fun l => l.length = n) := by
  constructor
  · intro v hv t
    unfold takeN
    subst hv
    rw [if_pos (by simp), List.take_left]
  · intro l v k hk
    unfold takeN at hk
    split at hk
    · simp only [Res.ok.injEq] at hk
      obtain ⟨rfl, rfl⟩ := hk
      rename_i h
      exact ⟨by simp; omega, h, rfl⟩
    · cases hk
  · intro v hv i hi
    unfold takeN
    rw [if_neg (by simp; omega)]
/-- a text, its length before it -/
def text (lo hi : Int) : Rd (List UInt8) := (num.only fun n => decide (lo ≤ n) && decide (n ≤ hi)).andThen fun n => takeN n.toNat
def textW (l : List UInt8) : List UInt8 := put l.length ++ l
theorem text_form (lo hi : Int) (h0 : 0 ≤ lo) (h1 : hi ≤ 1000000) : Form (text lo hi) textW (fun l => lo ≤ l.length ∧ (l.length : Int) ≤ hi) := by
  have h := (num_form.only fun n => decide (lo ≤ n) && decide (n ≤ hi)).andThen (β := List UInt8) (f := fun n => takeN n.toNat) (wb := fun l => l) (wr := textW) (Db := fun n l => l.length = n.toNat ∧ 0 ≤ n) (fun l => (l.length : Int))
    (by
      rintro n ⟨_, hn⟩
      simp only [Bool.and_eq_true, decide_eq_true_eq] at hn
      exact (takeN_form n.toNat).congr (fun _ => rfl) (fun v => ⟨fun h => h.1, fun h => ⟨h, by omega⟩⟩) (fun _ _ => rfl))
    (fun u => rfl) (fun a u hu => by omega)
  refine h.congr (fun _ => rfl) (fun v => ?_) (fun _ _ => rfl)
  simp only [I64, Bool.and_eq_true, decide_eq_true_eq]
  omega
/-- one byte of such -/
def oneR : Rd UInt8
  | [] => .bad 30
  | b :: _ => .ok b 1
theorem oneR_form : Form oneR (fun b => [b]) (fun _ => True) := by
  constructor
  · intro v _ t; rfl
  · intro l v k hk
    cases l with
    | nil => cases hk
    | cons b t =>
      simp only [oneR, Res.ok.injEq] at hk
      obtain ⟨rfl, rfl⟩ := hk
      exact ⟨trivial, by simp, rfl⟩
  · intro v _ i hi
    simp only [List.length_singleton] at hi
    obtain rfl : i = 0 := by omega
    rfl
end Go.Proofs.YtlinpkmfjkcoiaaDoor
