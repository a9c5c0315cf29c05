/- Appending a row of cells that was handed in, nil, empty or not, to a row of one's own. -/
import Derived.Test.YtkficmbkoinjjaaDoorD3
namespace Go.Proofs.YtkficmbkoinjjaaDoor
open Go Go.RowKit
set_option maxHeartbeats 1000000
set_option linter.unusedVariables false
set_option linter.unusedSimpArgs false
/-- where a row lies behind an append -/
def Lc (w : World) (v v' : Value) : Prop := v'.ownBlock = v.ownBlock ∨ ∀ k, v'.ownBlock = some k → w.heap.size ≤ k
theorem strs_one (l : List Cell) : ∀ u ∈ strs l, u.oneCell' = true := by
  intro u hu
  unfold strs at hu
  obtain ⟨x, _, rfl⟩ := List.mem_map.1 hu
  rfl
theorem run_catS (w : World) (B : Nat) (i : TypeInfo) (hi : Tryd.prog.info? 9 = some i) (hz : i.zero = some (.string ⟨#[]⟩)) (hsize : i.size = 1) (hby : i.bytes = 16) (v : Value) (l : List Cell) (hown : OutS w B v l) (p : Option Addr) (c : Nat) (l2 : List Cell) (hin : CellsIn w p l2) (hp : p = none → c = 0)
    (h63 : l.length + l2.length ≤ maxLen) (hbytes : (l.length + l2.length) * 16 ≤ 140737488355328) (hB : B ≤ w.heap.size) (ty : TypeId) :
    ∃ p' c' w', (Builtin.append_ #[27, 27] ty #[v, .slice p l2.length c]).run Tryd.prog w = .ok (.slice p' (l.length + l2.length) c') w' ∧ OutS w' B (.slice p' (l.length + l2.length) c') (l ++ l2) ∧ w.grownBy w' v.ownBlock ∧ Lc w v (.slice p' (l.length + l2.length) c') := by
  have hform : ∀ {w' : World} {v' : Value} {n : Nat} {xs : List Value}, w'.ownsRow B 9 1 v' n xs → ∃ p c, v' = .slice p n c := fun h => by
    rcases h.2 with ⟨e, e0⟩ | ⟨g, cap, cur, e, _⟩
    · exact ⟨none, 0, by rw [e, e0]⟩
    · exact ⟨_, _, e⟩
  have hlen : (strs l2).length = l2.length * 1 := by simp [strs]
  have hcat : strs l ++ strs l2 = strs (l ++ l2) := by simp [strs]
  cases p with
  | none =>
    have hc := hp rfl
    subst hc
    have h0 : l2 = [] := by
      rcases l2 with _ | ⟨x, t⟩
      · rfl
      · obtain ⟨b, o, e, _⟩ := hin 0 (by simp)
        cases e
    subst h0
    obtain ⟨q, d, rfl⟩ := hform hown
    exact ⟨q, d, w, run_append_owned_none (P := Tryd.prog) (w := w) B 27 ty 9 i 1 Tryd.underlying27 hi _ _ _ hown, by rw [List.append_nil]; exact hown, World.grownBy.refl w _, .inl rfl⟩
  | some ad =>
    have hnews : ∀ j u, (strs l2)[j]? = some u → w.cell? (ad.add j) = some u := by
      intro j u hu
      unfold strs at hu
      rw [List.getElem?_map] at hu
      obtain ⟨x, hx, rfl⟩ := Option.map_eq_some_iff.1 hu
      obtain ⟨hj, rfl⟩ := List.getElem?_eq_some_iff.1 hx
      obtain ⟨b, o, e, hc⟩ := hin j hj
      simp only [Option.some.injEq] at e
      subst e
      rw [Addr.add_lit]
      exact hc
    obtain ⟨v', w', hr, h2, h3, _, h5⟩ := run_append_own_at (P := Tryd.prog) w B 27 ty 9 i (.string ⟨#[]⟩) 1 16 Tryd.underlying27 hi hz hsize hby rfl (by decide) v l.length (strs l) hown ad l2.length c (strs l2) hlen hnews (strs_one l2) h63 hbytes hB
    obtain ⟨q, d, rfl⟩ := hform h2
    refine ⟨q, d, w', hr, (show w'.ownsRow B 9 1 _ (l ++ l2).length (strs (l ++ l2)) by rw [List.length_append, ← hcat]; exact h2), h3, ?_⟩
    rcases h5 with h5 | h5
    · left; rw [h5]
    · right
      intro k hk
      rw [h5] at hk
      simp only [Option.some.injEq] at hk
      omega
theorem wpList_catS {w : World} {ops : Array Oper} {rest : List Oper} {o : Oper} {a : Act} {Q : Exit → Act → World → Prop} (hgd : o.guard = none) (sl x : Operand)
    (ho : o.op = .call { callee := .builtin .append, args := #[sl, x], argTypes := #[27, 27] }) (B : Nat) (i : TypeInfo) (hi : Tryd.prog.info? 9 = some i) (hz : i.zero = some (.string ⟨#[]⟩)) (hsize : i.size = 1) (hby : i.bytes = 16)
    (v : Value) (l : List Cell) (hs : a.eval sl = v) (hown : OutS w B v l) (p : Option Addr) (c m : Nat) (l2 : List Cell) (hm : m = l2.length) (hx : a.eval x = .slice p m c) (hin : CellsIn w p l2) (hp : p = none → c = 0)
    (h63 : l.length + l2.length ≤ maxLen) (hbytes : (l.length + l2.length) * 16 ≤ 140737488355328) (hB : B ≤ w.heap.size) (N : Nat) (hN : N = l.length + l2.length)
    (h : ∀ p' c' w', OutS w' B (.slice p' N c') (l ++ l2) → w.grownBy w' v.ownBlock → Lc w v (.slice p' N c') → wpList Tryd.prog ops Q rest (a.put o.dst (.slice p' N c')) w') : wpList Tryd.prog ops Q (o :: rest) a w := by
  subst hm
  subst hN
  refine wpList_plain hgd fun K hK => ?_
  obtain ⟨p', c', w', hr, h2, h3, h4⟩ := run_catS w B i hi hz hsize hby v l hown p c l2 hin hp h63 hbytes hB o.type
  unfold Oper.wp execOp
  simp only [ho, resolve, invoke, builtin, Sem.run_bind, Sem.run_pure, Result.andThen_ok, List.map_toArray, List.map_cons, List.map_nil, hs, hx, hr]
  exact hK _ _ (h p' c' w' h2 h3 h4)
end Go.Proofs.YtkficmbkoinjjaaDoor
