/- Contract of package wire's Unpack: short and long rows of bytes. An array of four bytes out of a row, and compared. Contract of package wire's Unpack. Unpack whole; the laws' own lists. -/
import Derived.Test.YtlinpkmfjkcoiaaDoorQ2
import Derived.Test.YtlinpkmfjkcoiaaDoorT8
namespace Go.Proofs.YtlinpkmfjkcoiaaDoor
open Go Go.RowKit
set_option maxHeartbeats 2000000
set_option linter.unusedVariables false
set_option linter.unusedSimpArgs false
def UnpIs (w : World) (l : List UInt8) (e : Ending) (w' : World) : Prop := Below w.heap.size w w' ∧ match unpackR l with
  | .bad E => e = .returned (.tuple #[.slice none 0 0, .int .i64 E]) ∧ E ≠ 0
  | .ok es _ => ∃ (rows : List (Evt × Value)) (q : Option Addr) (d : Nat), rows.map (·.1) = es ∧ e = .returned (.tuple #[.slice q rows.length d, .int .i64 0]) ∧ EvsOwn w' w.heap.size (.slice q rows.length d) rows
theorem unpack_long (p : Option Addr) (c : Nat) (l : List UInt8) (w : World) (h : 1048576 < l.length) : Calls Tryd.prog 20 #[.slice p l.length c] w (UnpIs w l) := by
  have HF : Hid (unpackR l = .bad 2) := by show _ = _; unfold unpackR; rw [if_pos h]
  obtain ⟨n, hn⟩ : ∃ n, n = l.length := ⟨_, rfl⟩
  rw [← hn] at h ⊢
  have d1 : decide ((1048576 : Int) < (n : Int)) = true := by simp; omega
  clear hn h
  go_enter Tryd.func20, Tryd.ntmps20
  go_wp2
  first | go_ret2 | skip
  exact ⟨Below.refl _ _, by rw [HF.out]; exact ⟨rfl, by decide⟩⟩
theorem unpack_short (p : Option Addr) (c : Nat) (l : List UInt8) (w : World) (h : l.length < 5) : Calls Tryd.prog 20 #[.slice p l.length c] w (UnpIs w l) := by
  have HF : Hid (unpackR l = .bad 30) := by show _ = _; unfold unpackR; rw [if_neg (by omega), if_pos h]
  obtain ⟨n, hn⟩ : ∃ n, n = l.length := ⟨_, rfl⟩
  rw [← hn] at h ⊢
  have d1 : decide ((1048576 : Int) < (n : Int)) = false := by simp; omega
  have d2 : decide ((n : Int) < 5) = true := by simp; omega
  clear hn h
  go_enter Tryd.func20, Tryd.ntmps20
  go_wp2
  first | go_ret2 | skip
  exact ⟨Below.refl _ _, by rw [HF.out]; exact ⟨rfl, by decide⟩⟩
end Go.Proofs.YtlinpkmfjkcoiaaDoor
namespace Go.Proofs.YtlinpkmfjkcoiaaDoor
open Go Go.RowKit
set_option maxHeartbeats 1000000
set_option linter.unusedVariables false
set_option linter.unusedSimpArgs false
theorem und90 : Tryd.prog.underlying 90 = some (.array 4 5) := by kernel_rfl
theorem run_arrayAt (a : Option Addr) (c : Nat) (w : World) : (Instr.arrayAt 90 (.slice a 4 c)).run Tryd.prog w = .ok (.pointer a) w := by
  simp [Instr.arrayAt, run_underlying und90]
def beq4 (a b c d a' b' c' d' : Int) : Bool := a == a' && (b == b' && (c == c' && d == d'))
theorem run_eqlIn_4 (w : World) (a b c d a' b' c' d' : Int) :
    (Op.equalIn 10000 90 (.agg #[.int .u8 a, .int .u8 b, .int .u8 c, .int .u8 d]) (.agg #[.int .u8 a', .int .u8 b', .int .u8 c', .int .u8 d'])).run Tryd.prog w = .ok (beq4 a b c d a' b' c' d') w := by
  have hs : (sizeOf 5).run Tryd.prog w = .ok 1 w := by kernel_rfl
  have he : ∀ x y : Int, (Op.equalIn 9999 5 (.int .u8 x) (.int .u8 y)).run Tryd.prog w = .ok (x == y) w := fun x y => run_equalIn_int w 9998 5 .u8 .u8 x y Tryd.underlying5
  have ha : (isAgg 5).run Tryd.prog w = .ok false w := by kernel_rfl
  have hp : ∀ (xs : Array Value) (i : Nat) (v : Value), xs[i]? = some v → (part 5 xs i).run Tryd.prog w = .ok v w := by
    intro xs i v h1
    unfold part
    simp only [Sem.run_bind, ha, Result.andThen_ok]
    rw [h1]
    rfl
  have p0 : ∀ x0 x1 x2 x3 : Value, (part 5 #[x0, x1, x2, x3] 0).run Tryd.prog w = .ok x0 w := fun x0 x1 x2 x3 => hp _ 0 _ rfl
  have p1 : ∀ x0 x1 x2 x3 : Value, (part 5 #[x0, x1, x2, x3] 1).run Tryd.prog w = .ok x1 w := fun x0 x1 x2 x3 => hp _ 1 _ rfl
  have p2 : ∀ x0 x1 x2 x3 : Value, (part 5 #[x0, x1, x2, x3] 2).run Tryd.prog w = .ok x2 w := fun x0 x1 x2 x3 => hp _ 2 _ rfl
  have p3 : ∀ x0 x1 x2 x3 : Value, (part 5 #[x0, x1, x2, x3] 3).run Tryd.prog w = .ok x3 w := fun x0 x1 x2 x3 => hp _ 3 _ rfl
  have hr : List.range' 0 4 1 = [0, 1, 2, 3] := by decide
  rw [show (10000 : Nat) = 9999 + 1 from rfl]
  unfold Op.equalIn
  simp only [Sem.run_bind, run_underlying und90, Result.andThen_ok, hs]
  unfold beq4
  cases h1 : a == a' <;> cases h2 : b == b' <;> cases h3 : c == c' <;> cases h4 : d == d'
  all_goals
    simp only [Std.Legacy.Range.forIn_eq_forIn_range', Std.Legacy.Range.size, Nat.sub_zero, Nat.add_sub_cancel, Nat.div_one, hr, List.forIn_cons, List.forIn_nil, Sem.run_bind, Nat.mul_one, p0, p1, p2, p3, he, h1, h2, h3, h4, Result.andThen_ok, Bool.not_true, Bool.not_false, if_true, if_false, Bool.false_eq_true, Sem.run_pure, Bool.and_true, Bool.and_false, Bool.true_and, Bool.false_and]
theorem run_neq_4 (w : World) (a b c d a' b' c' d' : Int) :
    (binOp .neq 90 (.agg #[.int .u8 a, .int .u8 b, .int .u8 c, .int .u8 d]) (.agg #[.int .u8 a', .int .u8 b', .int .u8 c', .int .u8 d'])).run Tryd.prog w = .ok (.bool (!beq4 a b c d a' b' c' d')) w := by
  rw [run_neq_struct, run_eqlIn_4]; rfl
end Go.Proofs.YtlinpkmfjkcoiaaDoor
namespace Go.Proofs.YtlinpkmfjkcoiaaDoor
open Go Go.RowKit
set_option maxHeartbeats 4000000
set_option linter.unusedVariables false
set_option linter.unusedSimpArgs false
theorem run_neq_4_t (w : World) (a b c d a' b' c' d' : Int) (h : beq4 a b c d a' b' c' d' = true) :
    (binOp .neq 90 (.agg #[.int .u8 a, .int .u8 b, .int .u8 c, .int .u8 d]) (.agg #[.int .u8 a', .int .u8 b', .int .u8 c', .int .u8 d'])).run Tryd.prog w = .ok (.bool false) w := by rw [run_neq_4, h]; rfl
theorem run_neq_4_f (w : World) (a b c d a' b' c' d' : Int) (h : beq4 a b c d a' b' c' d' = false) :
    (binOp .neq 90 (.agg #[.int .u8 a, .int .u8 b, .int .u8 c, .int .u8 d]) (.agg #[.int .u8 a', .int .u8 b', .int .u8 c', .int .u8 d'])).run Tryd.prog w = .ok (.bool true) w := by rw [run_neq_4, h]; rfl
attribute [local go_sem ↓] run_front run_rest run_arrayAt run_neq_4_t run_neq_4_f
/-- a row's last four bytes -/
theorem four_of {t : List UInt8} (h : t.length = 4) : ∃ a b c d, t = [a, b, c, d] := by
  match t, h with
  | [a, b, c, d], _ => exact ⟨a, b, c, d, rfl⟩
theorem sum_same (l : List UInt8) (a b c d : UInt8) : beq4 ((adQ l / 256 : Nat) : Int) ((adQ l % 256 : Nat) : Int) ((adP l / 256 : Nat) : Int) ((adP l % 256 : Nat) : Int) (a.toNat : Int) (b.toNat : Int) (c.toNat : Int) (d.toNat : Int) = decide (sumW l = [a, b, c, d]) := by
  have a1 := adP_lt l
  have a3 := adQ_lt l
  have key : ∀ (z : Nat) (x : UInt8), z < 256 → (((z : Int) == (x.toNat : Int)) = decide (UInt8.ofNat z = x)) := by
    intro z x hz
    by_cases h : UInt8.ofNat z = x
    · subst h
      rw [ofNat_small hz]
      simp
    · rw [decide_eq_false h, beq_eq_false_iff_ne]
      intro e
      exact h (byte_eq (b := x) (z := z) (by omega)).symm
  unfold beq4 sumW
  rw [key _ a (by omega), key _ b (by omega), key _ c (by omega), key _ d (by omega)]
  by_cases h1 : UInt8.ofNat (adQ l / 256) = a <;> by_cases h2 : UInt8.ofNat (adQ l % 256) = b <;> by_cases h3 : UInt8.ofNat (adP l / 256) = c <;> by_cases h4 : UInt8.ofNat (adP l % 256) = d <;> simp [h1, h2, h3, h4]
set_option maxRecDepth 100000 in
theorem unpack_bad (p : Option Addr) (c : Nat) (l : List UInt8) (w : World) (h : In w p l) (hc : l.length ≤ c) (hm : c ≤ maxLen) (h5 : ¬ l.length < 5) (h6 : ¬ 1048576 < l.length) (hs : ¬ sumW (l.take (l.length - 4)) = l.drop (l.length - 4)) : Calls Tryd.prog 20 #[.slice p l.length c] w (UnpIs w l) := by
  have HF : Hid (unpackR l = .bad 32) := by show _ = _; unfold unpackR; rw [if_neg h6, if_neg h5, if_neg hs]
  have hby : Byt w w.heap.size p l := h.byt (Below.refl _ _) (Nat.le_refl _)
  have hdr := hby.drop (a := l.length - 4) hc
  obtain ⟨k4, hk4⟩ : ∃ k4, k4 = l.length - 4 := ⟨_, rfl⟩
  rw [← hk4] at hdr hs
  obtain ⟨t0, t1, t2, t3, ht⟩ := four_of (t := l.drop k4) (by rw [List.length_drop]; omega)
  rw [ht] at hdr hs
  obtain ⟨b, o, he, _, c0⟩ := hdr 0 (by simp)
  obtain ⟨b', o', he', _, c1⟩ := hdr 1 (by simp)
  rw [he] at he'
  simp only [Option.some.injEq, Addr.mk.injEq, and_true] at he'
  obtain ⟨rfl, rfl⟩ := he'
  obtain ⟨b', o', he', _, c2⟩ := hdr 2 (by simp)
  rw [he] at he'
  simp only [Option.some.injEq, Addr.mk.injEq, and_true] at he'
  obtain ⟨rfl, rfl⟩ := he'
  obtain ⟨b', o', he', _, c3⟩ := hdr 3 (by simp)
  rw [he] at he'
  simp only [Option.some.injEq, Addr.mk.injEq, and_true] at he'
  obtain ⟨rfl, rfl⟩ := he'
  simp only [List.getElem_cons_zero, List.getElem_cons_succ, Nat.add_zero] at c0 c1 c2 c3
  have hq : beq4 ((adQ (l.take k4) / 256 : Nat) : Int) ((adQ (l.take k4) % 256 : Nat) : Int) ((adP (l.take k4) / 256 : Nat) : Int) ((adP (l.take k4) % 256 : Nat) : Int) (t0.toNat : Int) (t1.toNat : Int) (t2.toNat : Int) (t3.toNat : Int) = false := by rw [sum_same]; exact decide_eq_false hs
  have hbl := lt_of_cell c0
  have HSUM : Hid (∀ wx, Below w.heap.size w wx → Calls Tryd.prog 51 #[.slice p k4 c] wx fun e w' => e = .returned (sumV (l.take k4)) ∧ Below wx.heap.size wx w') := fun wx hx => by
    have := sum_any p c (l.take k4) wx ((In.take h k4).below hx) (by rw [List.length_take]; omega)
    rw [List.length_take, Nat.min_eq_left (by omega)] at this
    exact this
  obtain ⟨m, hml⟩ : ∃ m, m = l.length := ⟨_, rfl⟩
  rw [← hml] at hc h5 h6 hk4 ⊢
  have d1 : decide ((1048576 : Int) < (m : Int)) = false := by simp; omega
  have d2 : decide ((m : Int) < 5) = false := by simp; omega
  have e3 : (m : Int) - 4 = (k4 : Int) := by omega
  have e2 : IntKind.i64.wrap (k4 : Int) = (k4 : Int) := by rw [IntWalk.i64_in _ (by omega)]
  have m1 : k4 ≤ c := by omega
  have m2 : k4 ≤ m := by omega
  have m3 : m - k4 = 4 := by omega
  obtain ⟨A, hA⟩ : ∃ A, A = adQ (l.take k4) / 256 := ⟨_, rfl⟩
  obtain ⟨B, hB⟩ : ∃ B, B = adQ (l.take k4) % 256 := ⟨_, rfl⟩
  obtain ⟨C, hC⟩ : ∃ C, C = adP (l.take k4) / 256 := ⟨_, rfl⟩
  obtain ⟨D, hD⟩ : ∃ D, D = adP (l.take k4) % 256 := ⟨_, rfl⟩
  have HSV : Hid (∀ wx, Below w.heap.size w wx → Calls Tryd.prog 51 #[.slice p k4 c] wx fun e w' => e = .returned (.agg #[.int .u8 (A : Int), .int .u8 (B : Int), .int .u8 (C : Int), .int .u8 (D : Int)]) ∧ Below wx.heap.size wx w') := by rw [hA, hB, hC, hD]; exact HSUM
  rw [← hA, ← hB, ← hC, ← hD] at hq
  have HS : Hid (∀ wx, Below w.heap.size w wx → Below w.heap.size w wx ∧ wx.cell? ⟨b, o, none⟩ = some (.int .u8 (t0.toNat : Int)) ∧ wx.cell? ⟨b, o + 1, none⟩ = some (.int .u8 (t1.toNat : Int)) ∧ wx.cell? ⟨b, o + 2, none⟩ = some (.int .u8 (t2.toNat : Int)) ∧ wx.cell? ⟨b, o + 3, none⟩ = some (.int .u8 (t3.toNat : Int))) := fun wx hx =>
    ⟨hx, (hx.cell (p := ⟨b, o, none⟩) hbl).trans c0, (hx.cell (p := ⟨b, o + 1, none⟩) hbl).trans c1, (hx.cell (p := ⟨b, o + 2, none⟩) hbl).trans c2, (hx.cell (p := ⟨b, o + 3, none⟩) hbl).trans c3⟩
  have HBD : Hid (∀ k, Below w.heap.size w (w.drewN k)) := fun k => below_drewN' (Below.refl _ _) k
  clear h hm hs ht hby hdr hA hB hC hD HSUM hml
  go_enter Tryd.func20, Tryd.ntmps20
  go_wp2
  go_quiet (fail)
  go_wp2
  have hbq := HBD.out nq
  obtain ⟨w1, hw1⟩ : ∃ x, x = w.drewN nq := ⟨_, rfl⟩
  rw [← hw1] at hbq ⊢
  rw [← hk4, m3, he]
  clear hw1 hk4 e3 e2 m2 m3 c0 c1 c2 c3 d1 d2
  go_region_held3 (fun wx => Below w.heap.size w wx ∧ wx.cell? ⟨b, o, none⟩ = some (.int .u8 (t0.toNat : Int)) ∧ wx.cell? ⟨b, o + 1, none⟩ = some (.int .u8 (t1.toNat : Int)) ∧ wx.cell? ⟨b, o + 2, none⟩ = some (.int .u8 (t2.toNat : Int)) ∧ wx.cell? ⟨b, o + 3, none⟩ = some (.int .u8 (t3.toNat : Int)))
    ((refine HS.out _ ?_; first | assumption | (apply Below.drew; assumption) | exact held_below (by assumption)))
    (first | (go_at_call 51; refine (HSV.out _ (held_below (by assumption))).mono ?_; rintro e w2 ⟨rfl, hb2⟩; have hB2 : Below w.heap.size w w2 := (held_below (by assumption)).trans (hb2.mono (held_below (by assumption)).size)))
  all_goals
    go_wp2
    first | go_ret2 | skip
    exact ⟨hB2, by rw [HF.out]; exact ⟨rfl, by decide⟩⟩
theorem own3_base {w : World} {B B' : Nat} {v : Value} {n : Nat} {xs : List Value} (h : w.ownsRow B 24 3 v n xs) (hB : B' ≤ B) : w.ownsRow B' 24 3 v n xs := by
  refine ⟨h.1, ?_⟩
  rcases h.2 with h2 | ⟨g, cap, cur, e, hg, h2⟩
  · exact .inl h2
  · exact .inr ⟨g, cap, cur, e, Nat.le_trans hB hg, h2⟩
theorem EvsOwn.base {w : World} {B B' : Nat} {v : Value} {rows : List (Evt × Value)} (h : EvsOwn w B v rows) (hB : B' ≤ B) : EvsOwn w B' v rows := ⟨own3_base h.own hB, fun x hx => own_base (h.each x hx) hB⟩
set_option maxRecDepth 100000 in
theorem unpack_good (p : Option Addr) (c : Nat) (l : List UInt8) (w : World) (h : In w p l) (hc : l.length ≤ c) (hm : c ≤ maxLen) (hK : Kw w) (h5 : ¬ l.length < 5) (h6 : ¬ 1048576 < l.length) (hs : sumW (l.take (l.length - 4)) = l.drop (l.length - 4)) : Calls Tryd.prog 20 #[.slice p l.length c] w (UnpIs w l) := by
  have HFB : Hid (∀ E, bodyR (l.take (l.length - 4)) = .bad E → unpackR l = .bad E) := by show ∀ _, _; intro E hE; unfold unpackR; rw [if_neg h6, if_neg h5, if_pos hs, hE]
  have HFO : Hid (∀ es k, bodyR (l.take (l.length - 4)) = .ok es k → unpackR l = if k = l.length - 4 then .ok es 0 else .bad 31) := by show ∀ _, _; intro es k hE; unfold unpackR; rw [if_neg h6, if_neg h5, if_pos hs, hE]
  have HKW := Lib.hid hK
  have HIN := Lib.hid (In.take h (l.length - 4))
  have HLT : Hid ((l.take (l.length - 4)).length = l.length - 4) := by show _ = _; rw [List.length_take]; omega
  have hby : Byt w w.heap.size p l := h.byt (Below.refl _ _) (Nat.le_refl _)
  have hdr := hby.drop (a := l.length - 4) hc
  obtain ⟨k4, hk4⟩ : ∃ k4, k4 = l.length - 4 := ⟨_, rfl⟩
  rw [← hk4] at hdr hs HIN HLT HFB HFO
  obtain ⟨t0, t1, t2, t3, ht⟩ := four_of (t := l.drop k4) (by rw [List.length_drop]; omega)
  rw [ht] at hdr hs
  obtain ⟨b, o, he, _, c0⟩ := hdr 0 (by simp)
  obtain ⟨b', o', he', _, c1⟩ := hdr 1 (by simp)
  rw [he] at he'
  simp only [Option.some.injEq, Addr.mk.injEq, and_true] at he'
  obtain ⟨rfl, rfl⟩ := he'
  obtain ⟨b', o', he', _, c2⟩ := hdr 2 (by simp)
  rw [he] at he'
  simp only [Option.some.injEq, Addr.mk.injEq, and_true] at he'
  obtain ⟨rfl, rfl⟩ := he'
  obtain ⟨b', o', he', _, c3⟩ := hdr 3 (by simp)
  rw [he] at he'
  simp only [Option.some.injEq, Addr.mk.injEq, and_true] at he'
  obtain ⟨rfl, rfl⟩ := he'
  simp only [List.getElem_cons_zero, List.getElem_cons_succ, Nat.add_zero] at c0 c1 c2 c3
  have hq : beq4 ((adQ (l.take k4) / 256 : Nat) : Int) ((adQ (l.take k4) % 256 : Nat) : Int) ((adP (l.take k4) / 256 : Nat) : Int) ((adP (l.take k4) % 256 : Nat) : Int) (t0.toNat : Int) (t1.toNat : Int) (t2.toNat : Int) (t3.toNat : Int) = true := by rw [sum_same]; exact decide_eq_true hs
  have hbl := lt_of_cell c0
  have HSUM : Hid (∀ wx, Below w.heap.size w wx → Calls Tryd.prog 51 #[.slice p k4 c] wx fun e w' => e = .returned (sumV (l.take k4)) ∧ Below wx.heap.size wx w') := fun wx hx => by
    have := sum_any p c (l.take k4) wx ((In.take h k4).below hx) (by rw [List.length_take]; omega)
    rw [List.length_take, Nat.min_eq_left (by omega)] at this
    exact this
  obtain ⟨m, hml⟩ : ∃ m, m = l.length := ⟨_, rfl⟩
  rw [← hml] at hc h5 h6 hk4 ⊢
  have d1 : decide ((1048576 : Int) < (m : Int)) = false := by simp; omega
  have d2 : decide ((m : Int) < 5) = false := by simp; omega
  have e3 : (m : Int) - 4 = (k4 : Int) := by omega
  have e2 : IntKind.i64.wrap (k4 : Int) = (k4 : Int) := by rw [IntWalk.i64_in _ (by omega)]
  have m1 : k4 ≤ c := by omega
  have m2 : k4 ≤ m := by omega
  have m3 : m - k4 = 4 := by omega
  obtain ⟨A, hA⟩ : ∃ A, A = adQ (l.take k4) / 256 := ⟨_, rfl⟩
  obtain ⟨B, hB⟩ : ∃ B, B = adQ (l.take k4) % 256 := ⟨_, rfl⟩
  obtain ⟨C, hC⟩ : ∃ C, C = adP (l.take k4) / 256 := ⟨_, rfl⟩
  obtain ⟨D, hD⟩ : ∃ D, D = adP (l.take k4) % 256 := ⟨_, rfl⟩
  have HSV : Hid (∀ wx, Below w.heap.size w wx → Calls Tryd.prog 51 #[.slice p k4 c] wx fun e w' => e = .returned (.agg #[.int .u8 (A : Int), .int .u8 (B : Int), .int .u8 (C : Int), .int .u8 (D : Int)]) ∧ Below wx.heap.size wx w') := by rw [hA, hB, hC, hD]; exact HSUM
  rw [← hA, ← hB, ← hC, ← hD] at hq
  have HS : Hid (∀ wx, Below w.heap.size w wx → Below w.heap.size w wx ∧ wx.cell? ⟨b, o, none⟩ = some (.int .u8 (t0.toNat : Int)) ∧ wx.cell? ⟨b, o + 1, none⟩ = some (.int .u8 (t1.toNat : Int)) ∧ wx.cell? ⟨b, o + 2, none⟩ = some (.int .u8 (t2.toNat : Int)) ∧ wx.cell? ⟨b, o + 3, none⟩ = some (.int .u8 (t3.toNat : Int))) := fun wx hx =>
    ⟨hx, (hx.cell (p := ⟨b, o, none⟩) hbl).trans c0, (hx.cell (p := ⟨b, o + 1, none⟩) hbl).trans c1, (hx.cell (p := ⟨b, o + 2, none⟩) hbl).trans c2, (hx.cell (p := ⟨b, o + 3, none⟩) hbl).trans c3⟩
  have HBD : Hid (∀ k, Below w.heap.size w (w.drewN k)) := fun k => below_drewN' (Below.refl _ _) k
  have HCM := Lib.hid hm
  clear h hm hs ht hby hdr hA hB hC hD HSUM hml
  go_enter Tryd.func20, Tryd.ntmps20
  go_wp2
  go_quiet (fail)
  go_wp2
  have hbq := HBD.out nq
  obtain ⟨w1, hw1⟩ : ∃ x, x = w.drewN nq := ⟨_, rfl⟩
  rw [← hw1] at hbq ⊢
  rw [← hk4, m3, he]
  have HK4 := Lib.hid hk4
  clear hw1 hk4 e3 e2 m2 m3 c0 c1 c2 c3 d1 d2
  go_region_held3 (fun wx => Below w.heap.size w wx ∧ wx.cell? ⟨b, o, none⟩ = some (.int .u8 (t0.toNat : Int)) ∧ wx.cell? ⟨b, o + 1, none⟩ = some (.int .u8 (t1.toNat : Int)) ∧ wx.cell? ⟨b, o + 2, none⟩ = some (.int .u8 (t2.toNat : Int)) ∧ wx.cell? ⟨b, o + 3, none⟩ = some (.int .u8 (t3.toNat : Int)))
    ((refine HS.out _ ?_; first | assumption | (apply Below.drew; assumption) | exact held_below (by assumption)))
    (first | (go_at_call 51; refine (HSV.out _ (held_below (by assumption))).mono ?_; rintro e w2 ⟨rfl, hb2⟩; have hB2 : Below w.heap.size w w2 := (held_below (by assumption)).trans (hb2.mono (held_below (by assumption)).size)))
  all_goals
    clear he hq
    have HB2 := Lib.hid hB2
    obtain ⟨bd, hbd⟩ : ∃ bd, bd = l.take k4 := ⟨_, rfl⟩
    rw [← hbd] at HIN HLT HFB HFO
    have hL0 : Lies (w2.alloc (.cells #[.slice p k4 c, .int .i64 0, .int .i64 0] 84)) w2.heap.size p c bd 0 0 := by
      refine ⟨?_, (HIN.out.below hB2).byt ((Below.refl _ _).alloc (Nat.le_refl _) _) (Nat.le_refl _), Nat.zero_le _, by rw [HLT.out]; exact m1, HCM.out⟩
      rw [HLT.out]
      exact Rdr.new w2 p k4 c
    have HL0 := Lib.hid hL0
    obtain ⟨w3, hw3⟩ : ∃ x, x = w2.alloc (.cells #[.slice p k4 c, .int .i64 0, .int .i64 0] 84) := ⟨_, rfl⟩
    have hal : Below w2.heap.size w2 w3 := by rw [hw3]; exact (Below.refl _ _).alloc (Nat.le_refl _) _
    rw [← hw3] at HL0
    have HW3 := Lib.hid hw3
    obtain ⟨R, hR⟩ : ∃ R, R = w2.heap.size := ⟨_, rfl⟩
    rw [← hR] at HL0
    have HRE := Lib.hid hR
    have HB3 : Hid (Below w.heap.size w w3) := hB2.trans (hal.mono hB2.size)
    clear hL0 hal hw3 hbd hB2
    go_upto_region 9 with fail
    rw [← HW3.out, ← hR]
    clear hR
    go_wp2_with fail
    have h0R : 0 ≠ R := by have := HKW.out.lt; have := HRE.out; have := HB2.out.size; omega
    have HWR : Hid (w.heap.size ≤ R) := by have := HRE.out; have := HB2.out.size; show _ ≤ _; omega
    have HR3 : Hid (R < w3.heap.size) := HL0.out.rd.lt
    refine (events_r R p c bd 0 0 w3 HL0.out (HKW.out.below HB3.out) h0R).mono ?_
    rintro e w4 ⟨rows, q, d, a', f', rfl, hown, haf, hca⟩
    have HA := Lib.hid haf
    have HO := Lib.hid hown
    have HC := Lib.hid hca
    have HB4 : Hid (Below w.heap.size w w4) := HB3.out.trans (Below.of_grown haf.g HWR.out HB3.out.size)
    obtain ⟨x0, x1, x2, xz1, xz2⟩ := haf.r
    obtain ⟨okb, hokb⟩ : ∃ okb, okb = ((a' : Int) == (k4 : Int)) := ⟨_, rfl⟩
    clear haf hown hca
    go_wp2_with fail
    rw [← hokb]
    refine (demand_dem R _ bd.length a' f' okb 31 w4 HA.out.r HA.out.le).mono ?_
    rintro e w5 ⟨rfl, f2, haf5, hd1, hd2, hd3⟩
    have HB5 : Hid (Below w.heap.size w w5) := HB4.out.trans (Below.of_grown haf5.g HWR.out HB4.out.size)
    have HO5 := Lib.hid (HO.out.keeps haf5.g HR3.out)
    have HS35 : Hid (w.heap.size ≤ w3.heap.size) := HB3.out.size
    have HD1 := Lib.hid hd1
    have HD2 := Lib.hid hd2
    have HD3 := Lib.hid hd3
    have HOK := Lib.hid hokb
    clear x0 x1 x2 xz1 xz2
    obtain ⟨x0, x1, x2, xz1, xz2⟩ := haf5.r
    clear haf5 hd1 hd2 hd3 hokb
    have hcase : (f2 ≠ 0 ∧ unpackR l = .bad f2) ∨ (f2 = 0 ∧ unpackR l = .ok (rows.map (·.1)) 0) := by
      rcases HC.out with ⟨h, _⟩ | ⟨_, h⟩
      · exact absurd rfl h
      · rw [List.drop_zero] at h
        cases hr : bodyR bd with
        | bad E =>
          rw [hr] at h
          have e1 := HD1.out (by rw [h.1]; exact h.2)
          refine .inl ⟨by rw [e1, h.1]; exact h.2, ?_⟩
          rw [HFB.out E hr, e1, h.1]
        | ok es k =>
          rw [hr] at h
          obtain ⟨h1, h2, h3⟩ := h
          have hu := HFO.out es k hr
          have hkk := HK4.out
          by_cases hk : a' = k4
          · have ob : okb = true := by rw [HOK.out]; simp; omega
            refine .inr ⟨by rw [HD2.out ob]; exact h1, ?_⟩
            rw [hu, if_pos (by omega), ← h3]
          · have ob : okb = false := by rw [HOK.out]; simp; omega
            refine .inl ⟨by rw [HD3.out h1 ob]; decide, ?_⟩
            rw [hu, if_neg (by omega), HD3.out h1 ob]
    rcases hcase with ⟨hf, hu⟩ | ⟨hf, hu⟩
    · have df : (f2 != 0) = true := by simpa using hf
      have HU := Lib.hid hu
      have HF2 := Lib.hid hf
      clear hf hu
      go_wp2
      go_quiet (fail)
      go_wp2
      first | go_ret2 | skip
      refine ⟨by repeat (first | exact HB5.out | exact below_drewN' HB5.out _ | apply Below.drew), ?_⟩
      rw [HU.out]
      exact ⟨rfl, HF2.out⟩
    · have df : (f2 != 0) = false := by simpa using hf
      have HU := Lib.hid hu
      clear hf hu
      go_wp2
      first | go_ret2 | skip
      refine ⟨HB5.out, ?_⟩
      rw [HU.out]
      exact ⟨rows, q, d, rfl, rfl, HO5.out.base HS35.out⟩
end Go.Proofs.YtlinpkmfjkcoiaaDoor
namespace Go.Proofs.YtlinpkmfjkcoiaaDoor
open Go Go.RowKit
set_option maxHeartbeats 2000000
set_option linter.unusedVariables false
set_option linter.unusedSimpArgs false
theorem unpack_any (p : Option Addr) (c : Nat) (l : List UInt8) (w : World) (h : In w p l) (hc : l.length ≤ c) (hm : c ≤ maxLen) (hK : Kw w) : Calls Tryd.prog 20 #[.slice p l.length c] w (UnpIs w l) := by
  by_cases h6 : 1048576 < l.length
  · exact unpack_long p c l w h6
  · by_cases h5 : l.length < 5
    · exact unpack_short p c l w h5
    · by_cases hs : sumW (l.take (l.length - 4)) = l.drop (l.length - 4)
      · exact unpack_good p c l w h hc hm hK h5 h6 hs
      · exact unpack_bad p c l w h hc hm h5 h6 hs
theorem cells3_cons (x : Evt × Value) (rows : List (Evt × Value)) : cells3 (x :: rows) = .string x.1.ty :: .int .i64 x.1.tm :: x.2 :: cells3 rows := rfl
theorem cells3_at : ∀ (rows : List (Evt × Value)) (i : Nat) (h : i < rows.length), (cells3 rows)[i * 3]? = some (.string rows[i].1.ty) ∧ (cells3 rows)[i * 3 + 1]? = some (.int .i64 rows[i].1.tm) ∧ (cells3 rows)[i * 3 + 2]? = some rows[i].2
  | x :: rows, 0, h => by rw [cells3_cons]; exact ⟨rfl, rfl, rfl⟩
  | x :: rows, i + 1, h => by
    have := cells3_at rows i (by simpa using h)
    rw [cells3_cons, show (i + 1) * 3 = i * 3 + 1 + 1 + 1 by omega]
    simpa using this
/-- what is owned reads as events -/
theorem EvsOwn.row {w : World} {B : Nat} {p : Option Addr} {n c : Nat} {rows : List (Evt × Value)} (h : EvsOwn w B (.slice p n c) rows) : EvtRow w p (rows.map (·.1)) := by
  intro i hi
  rw [List.length_map] at hi
  rcases h.own.2 with ⟨h1, h0⟩ | ⟨g, cap, cur, h1, _⟩
  · omega
  · simp only [Value.slice.injEq] at h1
    obtain ⟨rfl, rfl, rfl⟩ := h1
    have hrow := fun j u hu => h.own.cells (g := g) rfl j u hu
    obtain ⟨k0, k1, k2⟩ := cells3_at rows i hi
    have c0 := hrow _ _ k0
    have c1 := hrow _ _ k1
    have c2 := hrow _ _ k2
    rw [Addr.add_lit] at c0 c1 c2
    have hv := h.each _ (List.getElem_mem hi)
    obtain ⟨q, d, e⟩ := own_form hv
    simp only [List.getElem_map]
    rw [e] at c2 hv
    exact ⟨g, 0, q, d, rfl, c0, by rw [Nat.add_assoc]; exact c1, by rw [Nat.add_assoc]; exact c2, valrow_of_own hv⟩
theorem EvsOwn.len {w : World} {B : Nat} {p : Option Addr} {n c : Nat} {rows : List (Evt × Value)} (h : EvsOwn w B (.slice p n c) rows) : n = rows.length := by
  rcases h.own.2 with ⟨h1, h0⟩ | ⟨g, cap, cur, h1, _⟩
  · simp only [Value.slice.injEq] at h1; omega
  · simp only [Value.slice.injEq] at h1; exact h1.2.1
set_option maxRecDepth 100000 in
theorem lists_true (es : List Evt) (p1 p2 : Option Addr) (c1 c2 : Nat) (w : World) (h1 : EvtRow w p1 es) (h2 : EvtRow w p2 es) (hm : es.length ≤ maxLen) (hv : ∀ e ∈ es, e.vals.length ≤ maxLen) :
    Calls Tryd.prog 21 #[.slice p1 es.length c1, .slice p2 es.length c2] w fun e w' => e = .returned (.bool true) ∧ Below w.heap.size w w' := by
  obtain ⟨n, hn⟩ : ∃ n, n = es.length := ⟨_, rfl⟩
  have HN := Lib.hid hn
  rw [← hn] at hm ⊢
  have H1 := Lib.hid h1
  have H2 := Lib.hid h2
  have HV := Lib.hid hv
  unfold maxLen at hm
  clear hn h1 h2 hv
  go_enter Tryd.func21, Tryd.ntmps21
  go_wp2
  go_loopw [5] (fun i wr => ∃ k : Nat, k ≤ n ∧ i = .int .i64 k ∧ Below w.heap.size w wr) (fun i _ => n - (intOf i).toNat)
  case atStart => exact ⟨0, Nat.zero_le _, rfl, Below.refl _ _⟩
  case round =>
    obtain ⟨k, hk, rfl, hb⟩ := hrel
    have HB := Lib.hid hb
    clear hb
    by_cases hlt : k < n
    · have hkl : k < es.length := by rw [← HN.out]; exact hlt
      obtain ⟨ty, tm, vl, b, o, q, d, hev, rfl, x0, x1, x2, hr1⟩ := (H1.out.below HB.out).nth hkl
      obtain ⟨ty', tm', vl', b', o', q', d', hev', rfl, y0, y1, y2, hr2⟩ := (H2.out.below HB.out).nth hkl
      obtain ⟨rfl, rfl, rfl⟩ : ty' = ty ∧ tm' = tm ∧ vl' = vl := by
        have := hev'.trans hev.symm
        simpa using this
      have hvl : vl'.length ≤ maxLen := by have := HV.out _ (List.getElem_mem hkl); rw [← hev] at this; exact this
      have HEV : Hid (∀ wx, Below wr.heap.size wr wx → Calls Tryd.prog 18 #[.agg #[.string ty', .int .i64 tm', .slice q vl'.length d], .agg #[.string ty', .int .i64 tm', .slice q' vl'.length d']] wx fun e w' => e = .returned (.bool true) ∧ Below wx.heap.size wx w') := fun wx hx => events_true ty' tm' vl' q q' d d' wx (hr1.below hx) (hr2.below hx) hvl
      obtain ⟨vn, hvn⟩ : ∃ vn, vn = vl'.length := ⟨_, rfl⟩
      rw [← hvn] at x2 y2 HEV
      have hl1 := lt_of_cell x0
      have hl2 := lt_of_cell y0
      have HS : Hid (∀ wx, Below wr.heap.size wr wx → Below wr.heap.size wr wx ∧ wx.cell? ⟨b, o + k * 3, none⟩ = some (.string ty') ∧ wx.cell? ⟨b, o + k * 3 + 1, none⟩ = some (.int .i64 tm') ∧ wx.cell? ⟨b, o + k * 3 + 2, none⟩ = some (.slice q vn d) ∧ wx.cell? ⟨b', o' + k * 3, none⟩ = some (.string ty') ∧ wx.cell? ⟨b', o' + k * 3 + 1, none⟩ = some (.int .i64 tm') ∧ wx.cell? ⟨b', o' + k * 3 + 2, none⟩ = some (.slice q' vn d')) := fun wx hx =>
        ⟨hx, (hx.cell (p := ⟨b, o + k * 3, none⟩) hl1).trans x0, (hx.cell (p := ⟨b, o + k * 3 + 1, none⟩) hl1).trans x1, (hx.cell (p := ⟨b, o + k * 3 + 2, none⟩) hl1).trans x2, (hx.cell (p := ⟨b', o' + k * 3, none⟩) hl2).trans y0, (hx.cell (p := ⟨b', o' + k * 3 + 1, none⟩) hl2).trans y1, (hx.cell (p := ⟨b', o' + k * 3 + 2, none⟩) hl2).trans y2⟩
      clear hev hev' hr1 hr2 hvl hvn
      go_wp2
      go_region_held3 (fun wx => Below wr.heap.size wr wx ∧ wx.cell? ⟨b, o + k * 3, none⟩ = some (.string ty') ∧ wx.cell? ⟨b, o + k * 3 + 1, none⟩ = some (.int .i64 tm') ∧ wx.cell? ⟨b, o + k * 3 + 2, none⟩ = some (.slice q vn d) ∧ wx.cell? ⟨b', o' + k * 3, none⟩ = some (.string ty') ∧ wx.cell? ⟨b', o' + k * 3 + 1, none⟩ = some (.int .i64 tm') ∧ wx.cell? ⟨b', o' + k * 3 + 2, none⟩ = some (.slice q' vn d'))
        ((refine HS.out _ ?_; first | assumption | exact Below.refl _ _ | exact (Below.refl _ _).drew | exact held_below (by assumption)))
        (first | (go_at_call 18; refine (HEV.out _ (held_below (by assumption))).mono ?_; rintro e w2 ⟨rfl, hb2⟩; have hB2 : Below wr.heap.size wr w2 := held_on (by assumption) hb2))
      all_goals
        have HB2 : Hid (Below w.heap.size w w2) := HB.out.trans (hB2.mono HB.out.size)
        clear x0 x1 x2 y0 y1 y2
        go_wp2
        go_roundw
        case rel => exact ⟨k + 1, by omega, by go_num, HB2.out⟩
        case measure => simp [intOf]; omega
    · go_wp2
      go_ret
      exact ⟨rfl, HB.out⟩
end Go.Proofs.YtlinpkmfjkcoiaaDoor
