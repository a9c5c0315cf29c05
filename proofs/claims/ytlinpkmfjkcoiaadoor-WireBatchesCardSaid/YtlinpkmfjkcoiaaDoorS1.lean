/- The sum of a batch: plain facts: what one byte changed, and what two bytes exchanged, do to it. -/
import Derived.Lib.UnsafeStr
namespace Go.Proofs.YtlinpkmfjkcoiaaDoor
set_option maxHeartbeats 400000
set_option linter.unusedVariables false
/-- one and all bytes -/
def sumP (a : Nat) : List UInt8 → Nat
  | [] => a
  | x :: t => sumP (a + x.toNat) t
/-- all that stood there on the way -/
def sumQ (a b : Nat) : List UInt8 → Nat
  | [] => b
  | x :: t => sumQ (a + x.toNat) (b + (a + x.toNat)) t
theorem sumP_add : ∀ (l : List UInt8) (a d : Nat), sumP (a + d) l = sumP a l + d
  | [], a, d => rfl
  | x :: t, a, d => by
    simp only [sumP]
    rw [show a + d + x.toNat = a + x.toNat + d by omega, sumP_add t]
theorem sumQ_add : ∀ (l : List UInt8) (a b d : Nat), sumQ a (b + d) l = sumQ a b l + d
  | [], a, b, d => rfl
  | x :: t, a, b, d => by
    simp only [sumQ]
    rw [show b + d + (a + x.toNat) = b + (a + x.toNat) + d by omega, sumQ_add t]
theorem sumP_app : ∀ (u v : List UInt8) (a : Nat), sumP a (u ++ v) = sumP (sumP a u) v
  | [], v, a => rfl
  | x :: t, v, a => by simp only [List.cons_append, sumP]; rw [sumP_app t]
theorem sumQ_app : ∀ (u v : List UInt8) (a b : Nat), sumQ a b (u ++ v) = sumQ (sumP a u) (sumQ a b u) v
  | [], v, a, b => rfl
  | x :: t, v, a, b => by simp only [List.cons_append, sumP, sumQ]; rw [sumQ_app t]
theorem sumP_change (u v : List UInt8) (x y : UInt8) (a : Nat) : sumP a (u ++ x :: v) + y.toNat = sumP a (u ++ y :: v) + x.toNat := by
  rw [sumP_app, sumP_app]
  simp only [sumP]
  rw [sumP_add v _ x.toNat, sumP_add v _ y.toNat]
  omega
theorem sumP_swap (u v : List UInt8) (x y : UInt8) (a : Nat) : sumP a (u ++ x :: y :: v) = sumP a (u ++ y :: x :: v) := by
  rw [sumP_app, sumP_app]
  simp only [sumP]
  rw [show sumP a u + x.toNat + y.toNat = sumP a u + y.toNat + x.toNat by omega]
theorem sumQ_swap (u v : List UInt8) (x y : UInt8) (a b : Nat) : sumQ a b (u ++ x :: y :: v) + y.toNat = sumQ a b (u ++ y :: x :: v) + x.toNat := by
  rw [sumQ_app, sumQ_app]
  simp only [sumQ]
  generalize sumP a u = p
  generalize sumQ a b u = q
  rw [show p + y.toNat + x.toNat = p + x.toNat + y.toNat by omega]
  obtain ⟨c, hc⟩ : ∃ c, c = q + p + p + x.toNat + y.toNat := ⟨_, rfl⟩
  rw [show q + (p + x.toNat) + (p + x.toNat + y.toNat) = c + x.toNat by omega, show q + (p + y.toNat) + (p + x.toNat + y.toNat) = c + y.toNat by omega, sumQ_add, sumQ_add]
  omega
/-- the two halves, each below the modulus -/
def adP (l : List UInt8) : Nat := sumP 1 l % 65521
def adQ (l : List UInt8) : Nat := sumQ 1 0 l % 65521
theorem adP_snoc (l : List UInt8) (x : UInt8) : adP (l ++ [x]) = (adP l + x.toNat) % 65521 := by
  unfold adP
  rw [sumP_app]
  simp only [sumP]
  rw [Nat.mod_add_mod]
theorem adQ_snoc (l : List UInt8) (x : UInt8) : adQ (l ++ [x]) = (adQ l + adP (l ++ [x])) % 65521 := by
  unfold adQ adP
  rw [sumQ_app, sumP_app]
  simp only [sumQ, sumP]
  rw [Nat.mod_add_mod, Nat.add_mod_mod]
theorem adP_lt (l : List UInt8) : adP l < 65521 := Nat.mod_lt _ (by decide)
theorem adQ_lt (l : List UInt8) : adQ l < 65521 := Nat.mod_lt _ (by decide)
/-- the sum's four bytes -/
def sumW (l : List UInt8) : List UInt8 := [UInt8.ofNat (adQ l / 256), UInt8.ofNat (adQ l % 256), UInt8.ofNat (adP l / 256), UInt8.ofNat (adP l % 256)]
theorem small_inj {a b : Nat} (ha : a < 256) (hb : b < 256) (h : UInt8.ofNat a = UInt8.ofNat b) : a = b := by
  have := congrArg UInt8.toNat h
  simp [UInt8.toNat_ofNat'] at this
  omega
theorem sumW_inj {l k : List UInt8} (h : sumW l = sumW k) : adP l = adP k ∧ adQ l = adQ k := by
  unfold sumW at h
  simp only [List.cons.injEq, and_true] at h
  obtain ⟨h1, h2, h3, h4⟩ := h
  have a1 := adP_lt l
  have a2 := adP_lt k
  have a3 := adQ_lt l
  have a4 := adQ_lt k
  have e1 := small_inj (by omega) (by omega) h1
  have e2 := small_inj (by omega) (by omega) h2
  have e3 := small_inj (by omega) (by omega) h3
  have e4 := small_inj (by omega) (by omega) h4
  omega
/-- a byte that is changed is told by the sum -/
theorem sum_change {u v : List UInt8} {x y : UInt8} (h : sumW (u ++ x :: v) = sumW (u ++ y :: v)) : x = y := by
  have h1 := (sumW_inj h).1
  have h2 := sumP_change u v x y 1
  have hx := x.toNat_lt
  have hy := y.toNat_lt
  unfold adP at h1
  exact UInt8.toNat_inj.1 (by omega)
/-- two bytes that are exchanged are told by the sum -/
theorem sum_swap {u v : List UInt8} {x y : UInt8} (h : sumW (u ++ x :: y :: v) = sumW (u ++ y :: x :: v)) : x = y := by
  have h1 := (sumW_inj h).2
  have h2 := sumQ_swap u v x y 1 0
  have hx := x.toNat_lt
  have hy := y.toNat_lt
  unfold adQ at h1
  exact UInt8.toNat_inj.1 (by omega)
end Go.Proofs.YtlinpkmfjkcoiaaDoor
