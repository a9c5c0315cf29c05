/- Appending a row of bytes that was handed in, nil, empty or not, to a row of one's own. -/
import Derived.Test.YtlinpkmfjkcoiaaDoorG2
import Derived.Laws.OwnMore
import Derived.Deep.AppendLies
namespace Go.Proofs.YtlinpkmfjkcoiaaDoor
open Go Go.RowKit
set_option maxHeartbeats 1000000
set_option linter.unusedVariables false
set_option linter.unusedSimpArgs false
theorem byteCells_one (l : List UInt8) : ∀ u ∈ Lib.byteCells l, u.oneCell' = true := by
  intro u hu
  unfold Lib.byteCells at hu
  obtain ⟨x, _, rfl⟩ := List.mem_map.1 hu
  rfl
theorem run_cat (w : World) (B : Nat) (i : TypeInfo) (hi : Tryd.prog.info? 5 = some i) (hz : i.zero = some (.int .u8 0)) (hsize : i.size = 1) (hby : i.bytes = 1) (v : Value) (l : List UInt8) (hown : Out w B v l) (p : Option Addr) (c : Nat) (l2 : List UInt8) (hin : In w p l2) (hp : p = none → c = 0)
    (h63 : l.length + l2.length ≤ maxLen) (hbytes : l.length + l2.length ≤ 140737488355328) (hB : B ≤ w.heap.size) (ty : TypeId) :
    ∃ p' c' w', (Builtin.append_ #[25, 25] ty #[v, .slice p l2.length c]).run Tryd.prog w = .ok (.slice p' (l.length + l2.length) c') w' ∧ Out w' B (.slice p' (l.length + l2.length) c') (l ++ l2) ∧ Wr w w' v (.slice p' (l.length + l2.length) c') := by
  have hform : ∀ {w' : World} {v' : Value} {n : Nat} {xs : List Value}, w'.ownsRow B 5 1 v' n xs → ∃ p c, v' = .slice p n c := fun h => by
    rcases h.2 with ⟨e, e0⟩ | ⟨g, cap, cur, e, _⟩
    · exact ⟨none, 0, by rw [e, e0]⟩
    · exact ⟨_, _, e⟩
  have hlen : (Lib.byteCells l2).length = l2.length * 1 := by simp [Lib.byteCells]
  have hcat : Lib.byteCells l ++ Lib.byteCells l2 = Lib.byteCells (l ++ l2) := by simp [Lib.byteCells]
  cases p with
  | none =>
    have hc := hp rfl
    subst hc
    have h0 : l2 = [] := by
      rcases l2 with _ | ⟨x, t⟩
      · rfl
      · obtain ⟨b, o, e, _⟩ := hin 0 (by simp)
        cases e
    subst h0
    obtain ⟨q, d, rfl⟩ := hform hown
    exact ⟨q, d, w, run_append_owned_none (P := Tryd.prog) (w := w) B 25 ty 5 i 1 Tryd.underlying25 hi _ _ _ hown, by rw [List.append_nil]; exact hown, Wr.refl _ _⟩
  | some ad =>
    have hnews : ∀ j u, (Lib.byteCells l2)[j]? = some u → w.cell? (ad.add j) = some u := by
      intro j u hu
      unfold Lib.byteCells at hu
      rw [List.getElem?_map] at hu
      obtain ⟨x, hx, rfl⟩ := Option.map_eq_some_iff.1 hu
      obtain ⟨hj, rfl⟩ := List.getElem?_eq_some_iff.1 hx
      obtain ⟨b, o, e, hc⟩ := hin j hj
      simp only [Option.some.injEq] at e
      subst e
      rw [Addr.add_lit]
      exact hc
    obtain ⟨v', w', hr, h2, h3, _, h5⟩ := run_append_own_at (P := Tryd.prog) w B 25 ty 5 i (.int .u8 0) 1 1 Tryd.underlying25 hi hz hsize hby rfl (by decide) v l.length (Lib.byteCells l) hown ad l2.length c (Lib.byteCells l2) hlen hnews (byteCells_one l2) h63 (by rw [Nat.mul_one]; exact hbytes) hB
    obtain ⟨q, d, rfl⟩ := hform h2
    refine ⟨q, d, w', hr, Out.of h2 (by simp) hcat, ⟨h3, ?_⟩⟩
    rcases h5 with h5 | h5
    · left; rw [h5]
    · right
      intro k hk
      rw [h5] at hk
      simp only [Option.some.injEq] at hk
      omega
theorem wpList_cat {w : World} {ops : Array Oper} {rest : List Oper} {o : Oper} {a : Act} {Q : Exit → Act → World → Prop} (hgd : o.guard = none) (sl x : Operand)
    (ho : o.op = .call { callee := .builtin .append, args := #[sl, x], argTypes := #[25, 25] }) (B : Nat) (i : TypeInfo) (hi : Tryd.prog.info? 5 = some i) (hz : i.zero = some (.int .u8 0)) (hsize : i.size = 1) (hby : i.bytes = 1)
    (v : Value) (l : List UInt8) (hs : a.eval sl = v) (hown : Out w B v l) (p : Option Addr) (c m : Nat) (l2 : List UInt8) (hm : m = l2.length) (hx : a.eval x = .slice p m c) (hin : In w p l2) (hp : p = none → c = 0)
    (h63 : l.length + l2.length ≤ maxLen) (hbytes : l.length + l2.length ≤ 140737488355328) (hB : B ≤ w.heap.size) (N : Nat) (hN : N = l.length + l2.length)
    (h : ∀ p' c' w', Out w' B (.slice p' N c') (l ++ l2) → Wr w w' v (.slice p' N c') → wpList Tryd.prog ops Q rest (a.put o.dst (.slice p' N c')) w') : wpList Tryd.prog ops Q (o :: rest) a w := by
  subst hm
  subst hN
  refine wpList_plain hgd fun K hK => ?_
  obtain ⟨p', c', w', hr, h2, h3⟩ := run_cat w B i hi hz hsize hby v l hown p c l2 hin hp h63 hbytes hB o.type
  unfold Oper.wp execOp
  simp only [ho, resolve, invoke, builtin, Sem.run_bind, Sem.run_pure, Result.andThen_ok, List.map_toArray, List.map_cons, List.map_nil, hs, hx, hr]
  exact hK _ _ (h p' c' w' h2 h3)
theorem Out.nilcap {w : World} {B : Nat} {p : Option Addr} {n c : Nat} {l : List UInt8} (h : Out w B (.slice p n c) l) : p = none → c = 0 := by
  intro e
  rcases h.2 with ⟨e1, _⟩ | ⟨g, cap, cur, e1, _⟩
  · simp only [Value.slice.injEq] at e1
    exact e1.2.2
  · simp only [Value.slice.injEq] at e1
    rw [e] at e1
    cases e1.1
end Go.Proofs.YtlinpkmfjkcoiaaDoor
