/- Contracts of package wire's PutInt, appendText. -/
import Derived.Test.YtlinpkmfjkcoiaaDoorD2
namespace Go.Proofs.YtlinpkmfjkcoiaaDoor
open Go Go.RowKit
set_option maxHeartbeats 4000000
set_option linter.unusedVariables false
set_option linter.unusedSimpArgs false
theorem Out.nil (w : World) (B : Nat) : Out w B (.slice none 0 0) [] := World.ownsRow_nil _ _ _ _
theorem putInt_any (n : Int) (h : I64 n) (w : World) : Calls Tryd.prog 14 #[.int .i64 n] w (Wrote w.heap.size w (.slice none 0 0) (put n)) := by
  have ha := appendInt_any n h w.heap.size (.slice none 0 0) [] w (Nat.le_refl _) (Out.nil _ _) (by simp)
  rw [List.nil_append] at ha
  go_enter Tryd.func14, Tryd.ntmps14
  go_wp2_with fail
  refine ha.mono ?_
  rintro e w1 ⟨p, c, rfl, ho, hb⟩
  go_wp2
  go_ret
  exact ⟨p, c, rfl, ho, hb⟩
/-- where a row lies behind the append of a string's bytes -/
theorem str_where (w : World) (base : Nat) (i : TypeInfo) (hi : Tryd.prog.info? 5 = some i) (hz : i.zero = some (.int .u8 0)) (hsize : i.size = 1) (hby : i.bytes = 1) (v : Value) (n : Nat) (xs : List Value) (hown : w.ownsRow base 5 1 v n xs) (s : ByteArray)
    (h63 : n + s.size ≤ maxLen) (hbytes : n + s.size ≤ 140737488355328) (ty : TypeId) {v' : Value} {w' : World} (hr : (Builtin.append_ #[25, 9] ty #[v, .string s]).run Tryd.prog w = .ok v' w') : v'.ownBlock = v.ownBlock ∨ v'.ownBlock = some w.heap.size := by
  have hsmall : n + s.size ≤ 9223372036854775807 := by simp only [maxLen] at h63; omega
  have hxl : xs.length = n := by simpa using hown.1
  rcases hown.2 with ⟨rfl, rfl⟩ | ⟨g, cap, cur, rfl, hbg, hg, hnc, hcm, hcs, htake⟩
  · by_cases hm : s.size = 0
    · have hf := Lib.run_firstCells_string (P := Tryd.prog) w 1 s
      rw [hm] at hf
      have : (Builtin.append_ #[25, 9] ty #[.slice none 0 0, .string s]).run Tryd.prog w = .ok (.slice none 0 0) w := by
        simp [Builtin.append_, run_underlying Tryd.underlying25, run_underlying Tryd.underlying9, sizeOf, typeInfo, hi, hsize, Builtin.lenOf, hm, hf]
      rw [this] at hr
      injection hr with h1 h2
      subst h1
      exact .inl rfl
    · have := run_append_nil_string (P := Tryd.prog) w 25 9 ty 5 i (.int .u8 0) Tryd.underlying25 Tryd.underlying9 hi hz s (by omega) (by omega) (by rw [hby]; omega)
      rw [this] at hr
      injection hr with h1 h2
      subst h1
      exact .inr rfl
  · by_cases hroom : n + s.size ≤ cap
    · have := Lib.run_append_room_string (P := Tryd.prog) w 25 9 ty 5 i Tryd.underlying25 Tryd.underlying9 hi hsize g n cap cur hg s hroom (by rw [hcs]; omega)
      rw [this] at hr
      injection hr with h1 h2
      subst h1
      exact .inl rfl
    · have holds : ∀ j u, xs[j]? = some u → w.cell? ((⟨g, 0, none⟩ : Addr).add j) = some u := hown.cells (g := g) rfl
      have := Lib.run_append_grow_string (P := Tryd.prog) w 25 9 ty 5 i (.int .u8 0) Tryd.underlying25 Tryd.underlying9 hi hz ⟨g, 0, none⟩ n cap xs (by rw [hsize]; simpa using hxl) holds s (by omega) (by omega) (by rw [hby]; exact growslice_fits (by omega) (by omega))
      rw [this] at hr
      injection hr with h1 h2
      subst h1
      exact .inr rfl
theorem wpList_str {w : World} {ops : Array Oper} {rest : List Oper} {o : Oper} {a : Act} {Q : Exit → Act → World → Prop} (hgd : o.guard = none) (sl x : Operand)
    (ho : o.op = .call { callee := .builtin .append, args := #[sl, x], argTypes := #[25, 9] }) (B : Nat) (i : TypeInfo) (hi : Tryd.prog.info? 5 = some i) (hz : i.zero = some (.int .u8 0)) (hsize : i.size = 1) (hby : i.bytes = 1)
    (v : Value) (l : List UInt8) (hs : a.eval sl = v) (hown : Out w B v l) (s : ByteArray) (hx : a.eval x = .string s)
    (h63 : l.length + s.size ≤ maxLen) (hbytes : l.length + s.size ≤ 140737488355328) (hB : B ≤ w.heap.size)
    (h : ∀ p c w', Out w' B (.slice p (l.length + s.size) c) (l ++ s.toList) → Wr w w' v (.slice p (l.length + s.size) c) → wpList Tryd.prog ops Q rest (a.put o.dst (.slice p (l.length + s.size) c)) w') : wpList Tryd.prog ops Q (o :: rest) a w := by
  refine wpList_plain hgd fun K hK => ?_
  obtain ⟨v', w', hr, h2, h3, _⟩ := Lib.run_append_own_string (P := Tryd.prog) w B 25 9 o.type 5 i Tryd.underlying25 Tryd.underlying9 hi hz hsize hby v l.length (Lib.byteCells l) hown s h63 hbytes hB
  have hw := str_where w B i hi hz hsize hby v l.length (Lib.byteCells l) hown s h63 hbytes o.type hr
  have hOut : Out w' B v' (l ++ s.toList) := Out.of h2 (by simp [size_toList]) (by rw [ByteArray.toList_eq]; simp [Lib.byteCells, Lib.strCells])
  have hform : ∃ p c, v' = .slice p (l.length + s.size) c := by
    rcases h2.2 with ⟨e, e0⟩ | ⟨g, cap, cur, e, _⟩
    · exact ⟨none, 0, by rw [e, e0]⟩
    · exact ⟨_, _, e⟩
  obtain ⟨p, c, rfl⟩ := hform
  have hWr : Wr w w' v (.slice p (l.length + s.size) c) := by
    refine ⟨h3, ?_⟩
    rcases hw with e | e
    · exact .inl e
    · refine .inr fun k hk => ?_
      rw [e] at hk
      simp only [Option.some.injEq] at hk
      omega
  unfold Oper.wp execOp
  simp only [ho, resolve, invoke, builtin, Sem.run_bind, Sem.run_pure, Result.andThen_ok, List.map_toArray, List.map_cons, List.map_nil, hs, hx, hr]
  exact hK _ _ (h p c w' hOut hWr)
set_option maxRecDepth 100000 in
theorem appendText_any (s : ByteArray) (B : Nat) (v : Value) (l : List UInt8) (w : World) (hB : B ≤ w.heap.size) (hown : Out w B v l) (hl : l.length ≤ 50000000) (hs : s.size ≤ 1000000) :
    Calls Tryd.prog 78 #[v, .string s] w (Wrote B w v (l ++ textW s.toList)) := by
  obtain ⟨i0, hi, hz0, hz1, hz2⟩ := info_parts infoByte
  have ha := appendInt_any (s.size : Int) (by unfold I64; omega) B v l w hB hown (by omega)
  have H10 : Hid ((put (s.size : Int)).length ≤ 10) := grp_len10 (zig_lt (by omega) (by omega))
  obtain ⟨l1, hl1⟩ : ∃ l1, l1 = l ++ put (s.size : Int) := ⟨_, rfl⟩
  rw [← hl1] at ha
  have HE : Hid (l ++ textW s.toList = l1 ++ s.toList) := by show _ = _; rw [hl1]; unfold textW; rw [size_toList, List.append_assoc]
  have HLE : Hid ((l ++ textW s.toList).length = l1.length + s.size) := by show _ = _; rw [HE.out, ← size_toList s]; exact List.length_append
  have hml : l1.length ≤ 50000010 := by have := H10.out; rw [hl1]; simp; omega
  clear hl1
  go_enter Tryd.func78, Tryd.ntmps78
  go_wp2_with fail
  refine ha.mono ?_
  rintro e w1 ⟨p1, c1, rfl, ho, hb⟩
  have hm : l1.length + s.size ≤ maxLen := by unfold maxLen; omega
  have hm2 : l1.length + s.size ≤ 140737488355328 := by omega
  have hB1 : B ≤ w1.heap.size := by have := hb.g.size; omega
  have HO := Lib.hid ho
  have HB1 := Lib.hid hb
  clear ha ho hb
  go_wp2_with (at_builtin; refine wpList_str rfl _ _ rfl B i0 hi hz0 hz1 hz2 _ _ rfl HO.out s rfl hm hm2 hB1 ?_)
  intro p2 c2 w2 hO2 hW2
  have HO2 := Lib.hid hO2
  have HW2 := Lib.hid hW2
  clear hO2 hW2
  go_wp2
  go_ret
  refine ⟨p2, c2, by rw [HLE.out]; rfl, ?_, ?_⟩
  · rw [HLE.out, HE.out]
    exact HO2.out
  · rw [HLE.out]
    exact HB1.out.trans HW2.out
end Go.Proofs.YtlinpkmfjkcoiaaDoor
