/- The law's own marks. -/
import Derived.Test.YtkficmbkoinjjaaGreatDoorB1
namespace Go.Proofs.YtkficmbkoinjjaaGreatDoor
open Go Go.RowKit
set_option maxHeartbeats 4000000
set_option linter.unusedVariables false
set_option linter.unusedSimpArgs false
/-- the k-th mark -/
def wd (k : Nat) : Cell := [114, UInt8.ofNat (65 + k)]
theorem wd_inj {j k : Nat} (hj : j < 20) (hk : k < 20) (h : wd j = wd k) : j = k := by
  unfold wd at h
  simp only [List.cons.injEq, and_true, true_and] at h
  have := congrArg UInt8.toNat h
  simp at this
  omega
set_option maxRecDepth 100000 in
theorem word_any (k : Nat) (hk : k < 20) (w : World) : Calls Tryz.prog 17 #[.int .i64 k] w fun e w' => e = .returned (.string ⟨(wd k).toArray⟩) ∧ Below w.heap.size w w' := by
  have hl : ((UInt8.ofNat (65 + k)).toNat : Int) = 65 + (k : Int) := by
    have : (UInt8.ofNat (65 + k)).toNat = 65 + k := by simp; omega
    omega
  have hin : In (w.alloc (.cells #[.int .u8 114, .int .u8 (65 + (k : Int))] 5)) (some ⟨w.heap.size, 0, none⟩) (wd k) := by
    intro i hi
    refine ⟨_, 0, rfl, ?_⟩
    have hi2 : i < 2 := by simpa [wd] using hi
    have hc := lit_cells w [.int .u8 114, .int .u8 (65 + (k : Int))] 5 i
    rcases (show i = 0 ∨ i = 1 by omega) with rfl | rfl
    · simp [wd]
    · have := hc _ rfl
      rw [Addr.add_lit] at this
      rw [this]
      simp only [wd, List.getElem_cons_succ, List.getElem_cons_zero]
      rw [hl]
  have hcv := run_str hin 2
  have hb : Below w.heap.size w (w.alloc (.cells #[.int .u8 114, .int .u8 (65 + (k : Int))] 5)) := (Below.refl _ _).alloc (Nat.le_refl _) _
  have HB := Lib.hid hb
  simp only [show (wd k).length = 2 from rfl] at hcv
  clear hl hin hb
  go_enter Tryz.func17, Tryz.ntmps17
  go_wp2
  go_ret
  exact ⟨rfl, HB.out⟩
end Go.Proofs.YtkficmbkoinjjaaGreatDoor
/- Appending a row of cells that was handed in, nil, empty or not, to a row of one's own. -/
namespace Go.Proofs.YtkficmbkoinjjaaGreatDoor
open Go Go.RowKit
set_option maxHeartbeats 1000000
set_option linter.unusedVariables false
set_option linter.unusedSimpArgs false
/-- where a row lies behind an append -/
def Lc (w : World) (v v' : Value) : Prop := v'.ownBlock = v.ownBlock ∨ ∀ k, v'.ownBlock = some k → w.heap.size ≤ k
theorem strs_one (l : List Cell) : ∀ u ∈ strs l, u.oneCell' = true := by
  intro u hu
  unfold strs at hu
  obtain ⟨x, _, rfl⟩ := List.mem_map.1 hu
  rfl
theorem run_catS (w : World) (B : Nat) (i : TypeInfo) (hi : Tryz.prog.info? 9 = some i) (hz : i.zero = some (.string ⟨#[]⟩)) (hsize : i.size = 1) (hby : i.bytes = 16) (v : Value) (l : List Cell) (hown : OutS w B v l) (p : Option Addr) (c : Nat) (l2 : List Cell) (hin : CellsIn w p l2) (hp : p = none → c = 0)
    (h63 : l.length + l2.length ≤ maxLen) (hbytes : (l.length + l2.length) * 16 ≤ 140737488355328) (hB : B ≤ w.heap.size) (ty : TypeId) :
    ∃ p' c' w', (Builtin.append_ #[22, 22] ty #[v, .slice p l2.length c]).run Tryz.prog w = .ok (.slice p' (l.length + l2.length) c') w' ∧ OutS w' B (.slice p' (l.length + l2.length) c') (l ++ l2) ∧ w.grownBy w' v.ownBlock ∧ Lc w v (.slice p' (l.length + l2.length) c') := by
  have hform : ∀ {w' : World} {v' : Value} {n : Nat} {xs : List Value}, w'.ownsRow B 9 1 v' n xs → ∃ p c, v' = .slice p n c := fun h => by
    rcases h.2 with ⟨e, e0⟩ | ⟨g, cap, cur, e, _⟩
    · exact ⟨none, 0, by rw [e, e0]⟩
    · exact ⟨_, _, e⟩
  have hlen : (strs l2).length = l2.length * 1 := by simp [strs]
  have hcat : strs l ++ strs l2 = strs (l ++ l2) := by simp [strs]
  cases p with
  | none =>
    have hc := hp rfl
    subst hc
    have h0 : l2 = [] := by
      rcases l2 with _ | ⟨x, t⟩
      · rfl
      · obtain ⟨b, o, e, _⟩ := hin 0 (by simp)
        cases e
    subst h0
    obtain ⟨q, d, rfl⟩ := hform hown
    exact ⟨q, d, w, run_append_owned_none (P := Tryz.prog) (w := w) B 22 ty 9 i 1 Tryz.underlying22 hi _ _ _ hown, by rw [List.append_nil]; exact hown, World.grownBy.refl w _, .inl rfl⟩
  | some ad =>
    have hnews : ∀ j u, (strs l2)[j]? = some u → w.cell? (ad.add j) = some u := by
      intro j u hu
      unfold strs at hu
      rw [List.getElem?_map] at hu
      obtain ⟨x, hx, rfl⟩ := Option.map_eq_some_iff.1 hu
      obtain ⟨hj, rfl⟩ := List.getElem?_eq_some_iff.1 hx
      obtain ⟨b, o, e, hc⟩ := hin j hj
      simp only [Option.some.injEq] at e
      subst e
      rw [Addr.add_lit]
      exact hc
    obtain ⟨v', w', hr, h2, h3, _, h5⟩ := run_append_own_at (P := Tryz.prog) w B 22 ty 9 i (.string ⟨#[]⟩) 1 16 Tryz.underlying22 hi hz hsize hby rfl (by decide) v l.length (strs l) hown ad l2.length c (strs l2) hlen hnews (strs_one l2) h63 hbytes hB
    obtain ⟨q, d, rfl⟩ := hform h2
    refine ⟨q, d, w', hr, (show w'.ownsRow B 9 1 _ (l ++ l2).length (strs (l ++ l2)) by rw [List.length_append, ← hcat]; exact h2), h3, ?_⟩
    rcases h5 with h5 | h5
    · left; rw [h5]
    · right
      intro k hk
      rw [h5] at hk
      simp only [Option.some.injEq] at hk
      omega
theorem wpList_catS {w : World} {ops : Array Oper} {rest : List Oper} {o : Oper} {a : Act} {Q : Exit → Act → World → Prop} (hgd : o.guard = none) (sl x : Operand)
    (ho : o.op = .call { callee := .builtin .append, args := #[sl, x], argTypes := #[22, 22] }) (B : Nat) (i : TypeInfo) (hi : Tryz.prog.info? 9 = some i) (hz : i.zero = some (.string ⟨#[]⟩)) (hsize : i.size = 1) (hby : i.bytes = 16)
    (v : Value) (l : List Cell) (hs : a.eval sl = v) (hown : OutS w B v l) (p : Option Addr) (c m : Nat) (l2 : List Cell) (hm : m = l2.length) (hx : a.eval x = .slice p m c) (hin : CellsIn w p l2) (hp : p = none → c = 0)
    (h63 : l.length + l2.length ≤ maxLen) (hbytes : (l.length + l2.length) * 16 ≤ 140737488355328) (hB : B ≤ w.heap.size) (N : Nat) (hN : N = l.length + l2.length)
    (h : ∀ p' c' w', OutS w' B (.slice p' N c') (l ++ l2) → w.grownBy w' v.ownBlock → Lc w v (.slice p' N c') → wpList Tryz.prog ops Q rest (a.put o.dst (.slice p' N c')) w') : wpList Tryz.prog ops Q (o :: rest) a w := by
  subst hm
  subst hN
  refine wpList_plain hgd fun K hK => ?_
  obtain ⟨p', c', w', hr, h2, h3, h4⟩ := run_catS w B i hi hz hsize hby v l hown p c l2 hin hp h63 hbytes hB o.type
  unfold Oper.wp execOp
  simp only [ho, resolve, invoke, builtin, Sem.run_bind, Sem.run_pure, Result.andThen_ok, List.map_toArray, List.map_cons, List.map_nil, hs, hx, hr]
  exact hK _ _ (h p' c' w' h2 h3 h4)
end Go.Proofs.YtkficmbkoinjjaaGreatDoor
/- Appending a row that was handed in, nil, empty or not, of elements of any size, to a row of one's own. -/
namespace Go.Proofs.YtkficmbkoinjjaaGreatDoor
open Go Go.RowKit
set_option maxHeartbeats 1000000
set_option linter.unusedVariables false
set_option linter.unusedSimpArgs false
theorem own_form {w : World} {B : Nat} {E : TypeId} {sz n : Nat} {v : Value} {xs : List Value} (h : w.ownsRow B E sz v n xs) : ∃ p c, v = .slice p n c := by
  rcases h.2 with ⟨e, e0⟩ | ⟨g, cap, cur, e, _⟩
  · exact ⟨none, 0, by rw [e, e0]⟩
  · exact ⟨_, _, e⟩
theorem run_catG (w : World) (B : Nat) (T E ty : TypeId) (i : TypeInfo) (z : Value) (size bytes : Nat) (ht : Tryz.prog.underlying T = some (.slice E)) (hi : Tryz.prog.info? E = some i) (hz : i.zero = some z) (hsize : i.size = size) (hby : i.bytes = bytes) (hzs : z.cells.size = size) (hsz : 0 < size)
    (v : Value) (n : Nat) (xs : List Value) (hown : w.ownsRow B E size v n xs) (p : Option Addr) (c m : Nat) (news : List Value) (hl : news.length = m * size) (hnews : ∀ ad, p = some ad → ∀ j u, news[j]? = some u → w.cell? (ad.add j) = some u) (h1 : ∀ u ∈ news, u.oneCell' = true) (hp : p = none → c = 0 ∧ m = 0)
    (h63 : n + m ≤ maxLen) (hbytes : (n + m) * bytes ≤ 140737488355328) (hB : B ≤ w.heap.size) :
    ∃ p' c' w', (Builtin.append_ #[T, T] ty #[v, .slice p m c]).run Tryz.prog w = .ok (.slice p' (n + m) c') w' ∧ w'.ownsRow B E size (.slice p' (n + m) c') (n + m) (xs ++ news) ∧ w.grownBy w' v.ownBlock := by
  cases p with
  | none =>
    obtain ⟨rfl, rfl⟩ := hp rfl
    obtain rfl : news = [] := List.eq_nil_of_length_eq_zero (by omega)
    obtain ⟨q, d, rfl⟩ := own_form hown
    exact ⟨q, d, w, run_append_owned_none (P := Tryz.prog) (w := w) B T ty E i size ht hi _ _ _ hown, by rw [List.append_nil]; exact hown, World.grownBy.refl w _⟩
  | some ad =>
    obtain ⟨v', w', hr, h2, h3, _, _⟩ := run_append_own_at (P := Tryz.prog) w B T ty E i z size bytes ht hi hz hsize hby hzs hsz v n xs hown ad m c news hl (hnews ad rfl) h1 h63 hbytes hB
    obtain ⟨q, d, rfl⟩ := own_form h2
    exact ⟨q, d, w', hr, h2, h3⟩
theorem wpList_catG {w : World} {ops : Array Oper} {rest : List Oper} {o : Oper} {a : Act} {Q : Exit → Act → World → Prop} (hgd : o.guard = none) (sl x : Operand) (T E : TypeId)
    (ho : o.op = .call { callee := .builtin .append, args := #[sl, x], argTypes := #[T, T] }) (B : Nat) (i : TypeInfo) (z : Value) (size bytes : Nat) (ht : Tryz.prog.underlying T = some (.slice E)) (hi : Tryz.prog.info? E = some i) (hz : i.zero = some z) (hsize : i.size = size) (hby : i.bytes = bytes) (hzs : z.cells.size = size) (hsz : 0 < size)
    (v : Value) (n : Nat) (xs : List Value) (hs : a.eval sl = v) (hown : w.ownsRow B E size v n xs) (p : Option Addr) (c m : Nat) (news : List Value) (hx : a.eval x = .slice p m c) (hl : news.length = m * size) (hnews : ∀ ad, p = some ad → ∀ j u, news[j]? = some u → w.cell? (ad.add j) = some u) (h1 : ∀ u ∈ news, u.oneCell' = true) (hp : p = none → c = 0 ∧ m = 0)
    (h63 : n + m ≤ maxLen) (hbytes : (n + m) * bytes ≤ 140737488355328) (hB : B ≤ w.heap.size) (N : Nat) (hN : N = n + m)
    (h : ∀ p' c' w', w'.ownsRow B E size (.slice p' N c') N (xs ++ news) → w.grownBy w' v.ownBlock → wpList Tryz.prog ops Q rest (a.put o.dst (.slice p' N c')) w') : wpList Tryz.prog ops Q (o :: rest) a w := by
  subst hN
  refine wpList_plain hgd fun K hK => ?_
  obtain ⟨p', c', w', hr, h2, h3⟩ := run_catG w B T E o.type i z size bytes ht hi hz hsize hby hzs hsz v n xs hown p c m news hl hnews h1 hp h63 hbytes hB
  unfold Oper.wp execOp
  simp only [ho, resolve, invoke, builtin, Sem.run_bind, Sem.run_pure, Result.andThen_ok, List.map_toArray, List.map_cons, List.map_nil, hs, hx, hr]
  exact hK _ _ (h p' c' w' h2 h3)
end Go.Proofs.YtkficmbkoinjjaaGreatDoor
