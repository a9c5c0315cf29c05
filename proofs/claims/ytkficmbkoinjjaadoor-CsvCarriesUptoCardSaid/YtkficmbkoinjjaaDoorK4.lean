/- The walk of the law CsvAgain. -/
import Derived.Test.YtkficmbkoinjjaaDoorP5
import Derived.Test.YtkficmbkoinjjaaDoorP6
namespace Go.Proofs.YtkficmbkoinjjaaDoor
open Go Go.RowKit
set_option maxHeartbeats 4000000
set_option linter.unusedVariables false
set_option linter.unusedSimpArgs false
/-- what a text is read as, its length asked -/
def spl (l : List UInt8) : Sp := if 65536 < l.length then .bad 2 0 else splitL l
theorem spl_ok {l : List UInt8} {rows : List (List Cell)} (h : spl l = .ok rows) : l.length ≤ 65536 ∧ splitL l = .ok rows := by
  unfold spl at h
  split at h
  · cases h
  · exact ⟨by omega, h⟩
theorem spl_bad {l : List UInt8} {E : Int} {a : Nat} (h : spl l = .bad E a) : (E = 2 ∧ a = 0) ∨ (E ≠ 2 ∧ E ≠ 0 ∧ a < l.length) := by
  unfold spl at h
  split at h
  · simp only [Sp.bad.injEq] at h
    exact .inl ⟨h.1.symm, h.2.symm⟩
  · have := split_fault h
    exact .inr ⟨this.2.1, this.2.2, this.1⟩
theorem SplitIs.bad {w : World} {l : List UInt8} {e : Ending} {w' : World} {E : Int} {a : Nat} (h : SplitIs w l e w') (hs : spl l = .bad E a) : e = .returned (.tuple #[.slice none 0 0, .int .i64 a, .int .i64 E]) ∧ Below w.heap.size w w' := by
  obtain ⟨hb, hi⟩ := h
  rw [show (if 65536 < l.length then Sp.bad 2 0 else splitL l) = .bad E a from hs] at hi
  exact ⟨hi.1, hb⟩
theorem SplitIs.ok {w : World} {l : List UInt8} {e : Ending} {w' : World} {rows : List (List Cell)} (h : SplitIs w l e w') (hs : spl l = .ok rows) : ∃ q d, e = .returned (.tuple #[.slice q rows.length d, .int .i64 0, .int .i64 0]) ∧ Below w.heap.size w w' ∧ RowsIn w' q rows ∧ rows.length ≤ d ∧ d ≤ maxLen ∧ ∀ r ∈ rows, r.length ≤ maxLen := by
  obtain ⟨hb, hi⟩ := h
  rw [show (if 65536 < l.length then Sp.bad 2 0 else splitL l) = .ok rows from hs] at hi
  obtain ⟨rs, q, d, hrs, he, hrow⟩ := hi
  have hin := hrow.rowsIn
  rw [hrs] at hin
  have hlen : rs.length = rows.length := by rw [← hrs, List.length_map]
  have hd : rs.length ≤ d ∧ d ≤ maxLen := by
    rcases hrow.own.2 with ⟨e, e0⟩ | ⟨g, cap, cur, e, _, _, h2, h3, _⟩
    · simp only [Value.slice.injEq] at e
      obtain ⟨_, e1, rfl⟩ := e
      exact ⟨by omega, Nat.zero_le _⟩
    · simp only [Value.slice.injEq] at e
      obtain ⟨_, _, rfl⟩ := e
      exact ⟨h2, h3⟩
  rw [hlen] at he hd
  refine ⟨q, d, he, hb, hin, hd.1, hd.2, fun r hr => ?_⟩
  rw [← hrs] at hr
  obtain ⟨x, hx, rfl⟩ := List.mem_map.1 hr
  have := own_max (hrow.each x hx)
  simpa using this
theorem RowsIn.left {w : World} {p : Option Addr} {A B : List (List Cell)} (h : RowsIn w p (A ++ B)) : RowsIn w p A := by
  intro i hi
  obtain ⟨b, o, q, d, e, c, hc⟩ := h i (by simp; omega)
  rw [List.getElem_append_left hi] at c hc
  exact ⟨b, o, q, d, e, c, hc⟩
theorem RowsIn.right {w : World} {b o : Nat} {A B : List (List Cell)} (h : RowsIn w (some ⟨b, o, none⟩) (A ++ B)) : RowsIn w (some ⟨b, o + A.length, none⟩) B := by
  intro i hi
  obtain ⟨b', o', q, d, e, c, hc⟩ := h (A.length + i) (by simp; omega)
  simp only [Option.some.injEq, Addr.mk.injEq, and_true] at e
  obtain ⟨rfl, rfl⟩ := e
  have e2 : (A ++ B)[A.length + i]'(by simp; omega) = B[i] := by rw [List.getElem_append_right (by omega)]; simp
  rw [e2] at c hc
  exact ⟨_, _, q, d, rfl, by rw [← Nat.add_assoc] at c; exact c, hc⟩
theorem RowsIn.behind {w : World} {p : Option Addr} {A B : List (List Cell)} (h : RowsIn w p (A ++ B)) : RowsIn w (p.map fun x => x.add A.length) B := by
  intro i hi
  obtain ⟨b, o, q, d, rfl, c, hc⟩ := h (A.length + i) (by simp; omega)
  have e2 : (A ++ B)[A.length + i]'(by simp; omega) = B[i] := by rw [List.getElem_append_right (by omega)]; simp
  rw [e2] at c hc
  refine ⟨b, o + A.length, q, d, ?_, by rw [← Nat.add_assoc] at c; exact c, hc⟩
  simp [Addr.add_lit]
end Go.Proofs.YtkficmbkoinjjaaDoor
namespace Go.Proofs.YtkficmbkoinjjaaDoor.lawAgain
open Go Go.ChangeShapes Go.WideShapes Go.ChangeAt Go.RowKit
set_option maxHeartbeats 4000000
set_option linter.unusedVariables false
set_option linter.unusedSimpArgs false
set_option maxRecDepth 100000 in
theorem walk (T U : ByteArray) (hU : U.size ≤ 140737488351232) (W : World) (hM : Mx W) :
    Calls Tryd.prog 4 #[.string T, .string U] W fun e w' => e = .returned (.bool true) ∧ Below W.heap.size W w' := by
  have HM := Lib.hid hM
  have HSZ : Hid (T.data.toList.length = T.size) := (Lib.size_eq T).symm
  clear hM
  go_enter Tryd.func4, Tryd.ntmps4
  go_wp2_with fail
  refine (begun_any W HM.out).mono ?_
  rintro e w1 ⟨rfl, hb1⟩
  have HB1 := Lib.hid hb1
  clear hb1
  go_wp2_with fail
  refine (split_any T w1).mono ?_
  intro e w2 hsp
  cases hX : spl T.data.toList with
  | bad E a =>
    obtain ⟨rfl, hb2⟩ := hsp.bad hX
    have HB2 : Hid (Below W.heap.size W w2) := HB1.out.trans (hb2.mono HB1.out.size)
    have hbd := spl_bad hX
    rw [HSZ.out] at hbd
    clear hsp hb2 hX
    rcases hbd with ⟨rfl, rfl⟩ | ⟨h2, h0, ha⟩
    · go_wp2
      go_ret
      exact ⟨rfl, HB2.out⟩
    · have d0 : (E != 0) = true := by simpa using h0
      have d2 : (E != 2) = true := by simpa using h2
      have d3 : (E == 2) = false := by simpa using h2
      have d4 : decide ((T.size : Int) ≤ (a : Int)) = false := by simp; omega
      have d5 : decide ((a : Int) < 0) = false := by simp
      have H0 := Lib.hid h0
      clear h2 h0
      go_wp2
      go_ret
      exact ⟨rfl, HB2.out⟩
  | ok rows =>
    obtain ⟨q, d, rfl, hb2, hin2, hrd, hdm, hrm⟩ := hsp.ok hX
    have HB2 : Hid (Below W.heap.size W w2) := HB1.out.trans (hb2.mono HB1.out.size)
    have HX := Lib.hid (spl_ok hX)
    have HIN := Lib.hid hin2
    have HRM := Lib.hid hrm
    have HNE := Lib.hid (split_has HX.out.2)
    have hdm2 : d ≤ 9223372036854775807 := hdm
    obtain ⟨n, hn⟩ : ∃ n, n = rows.length := ⟨_, rfl⟩
    have HN := Lib.hid hn
    rw [← hn] at hrd ⊢
    clear hsp hb2 hX hin2 hrm hn hdm
    go_wp2
    go_loopw [9] (fun iv wr => ∃ k : Nat, k ≤ n ∧ iv = .int .i64 k ∧ w2 = wr) (fun iv _ => n - (intOf iv).toNat)
    case atStart => exact ⟨0, Nat.zero_le _, rfl, by first | rfl | trivial⟩
    case round =>
      obtain ⟨k, hk, rfl, rfl⟩ := hrel
      by_cases hlt : k < n
      · obtain ⟨r, b, o, q', d', hr, rfl, c0, hcr⟩ := HIN.out.nth (k := k) (by rw [← HN.out]; exact hlt)
        have hne : r ≠ [] := (HNE.out r (List.mem_of_getElem? hr)).1
        obtain ⟨m, hm⟩ : ∃ m, m = r.length := ⟨_, rfl⟩
        have d1 : ((m : Int) == 0) = false := by
          rw [beq_eq_false_iff_ne]
          intro e
          exact hne (List.eq_nil_of_length_eq_zero (by omega))
        rw [← hm] at c0
        clear hr hcr hne hm
        go_wp2
        go_roundw
        case rel => exact ⟨k + 1, by omega, by go_num, by first | rfl | trivial⟩
        case measure => simp [intOf]; omega
      · have hJ := join_any rows q d w2 (HM.out.below HB2.out HM.out.lt) HIN.out (by rw [← HN.out]; unfold maxLen; omega) (fun r hr => ⟨HRM.out r hr, fun c hc => by
          have := (HNE.out r hr).2 c hc
          have := HX.out.1
          omega⟩)
        rw [← show n = _ from HN.out] at hJ
        have hF : joinF rows = if 65536 < (joinL rows).length then 2 else 0 := by
          unfold joinF
          rw [if_neg]
          intro h
          obtain ⟨r, hr, he⟩ := List.any_eq_true.1 h
          exact (HNE.out r hr).1 (by simpa using he)
        have HF := Lib.hid hF
        clear hF
        go_wp2_with fail
        refine hJ.mono ?_
        rintro e w3 ⟨hb3, rfl⟩
        have HB3 : Hid (Below W.heap.size W w3) := HB2.out.trans (hb3.mono HB2.out.size)
        have HIN3 := Lib.hid (HIN.out.below hb3)
        clear hJ hb3
        by_cases hlong : 65536 < (joinL rows).length
        · have e1 : joinF rows = 2 := by rw [HF.out, if_pos hlong]
          rw [e1]
          clear e1 hlong
          go_wp2
          go_ret
          exact ⟨rfl, HB3.out⟩
        · have e1 : joinF rows = 0 := by rw [HF.out, if_neg hlong]
          have e2 : joinT rows = ⟨(joinL rows).toArray⟩ := by unfold joinT; rw [if_pos e1]
          rw [e1, e2]
          have hS : spl (joinL rows) = .ok rows := by
            unfold spl
            rw [if_neg hlong]
            exact split_join fun r hr => (HNE.out r hr).1
          have HS := Lib.hid hS
          obtain ⟨V, hV⟩ : ∃ V : ByteArray, V = ⟨(joinL rows).toArray⟩ := ⟨_, rfl⟩
          have hVl : V.data.toList = joinL rows := by rw [hV]
          have hVs : V.size ≤ 65536 := by rw [Lib.size_eq, hVl]; omega
          rw [← hV]
          have HV := Lib.hid hVl
          clear e1 e2 hlong hS hV hVl
          go_wp2_with fail
          refine (split_any V w3).mono ?_
          intro e w4 hsp
          obtain ⟨q4, d4, rfl, hb4, hin4, hrd4, hdm4, hrm4⟩ := hsp.ok (by rw [HV.out]; exact HS.out)
          have HB4 : Hid (Below W.heap.size W w4) := HB3.out.trans (hb4.mono HB3.out.size)
          have HIN4 := Lib.hid (HIN3.out.below hb4)
          have hSM := same_any rows q q4 d d4 w4 HIN4.out hin4 (by rw [← HN.out]; unfold maxLen; omega) HRM.out
          rw [← show n = _ from HN.out] at hSM hrd4 ⊢
          clear hsp hb4 hin4 hdm4 hrm4
          go_wp2_with fail
          refine hSM.mono ?_
          rintro e w5 ⟨rfl, hb5⟩
          have HB5 : Hid (Below W.heap.size W w5) := HB4.out.trans (hb5.mono HB4.out.size)
          have HIN5 := Lib.hid (HIN4.out.below hb5)
          clear hSM hb5
          go_wp2_with fail
          refine (split_any (V ++ U) w5).mono ?_
          intro e w6 hsp
          have hVU : (V ++ U).data.toList = joinL rows ++ U.data.toList := by rw [← HV.out]; simp
          rw [hVU] at hsp
          cases hX6 : spl (joinL rows ++ U.data.toList) with
          | bad E6 a6 =>
            obtain ⟨rfl, hb6⟩ := hsp.bad hX6
            have h60 : E6 ≠ 0 := by
              rcases spl_bad hX6 with ⟨rfl, _⟩ | ⟨_, h, _⟩
              · decide
              · exact h
            have d60 : (E6 != 0) = true := by simpa using h60
            have HB6 : Hid (Below W.heap.size W w6) := HB5.out.trans (hb6.mono HB5.out.size)
            clear hsp hb6 hX6 h60 hVU
            go_wp2_with fail
            refine (split_any U w6).mono ?_
            intro e w7 hsp7
            cases hX7 : spl U.data.toList with
            | bad E7 a7 =>
              obtain ⟨rfl, hb7⟩ := hsp7.bad hX7
              have HB7 : Hid (Below W.heap.size W w7) := HB6.out.trans (hb7.mono HB6.out.size)
              clear hsp7 hb7 hX7
              go_wp2
              go_ret
              exact ⟨rfl, HB7.out⟩
            | ok kk =>
              obtain ⟨q7, d7, rfl, hb7, _, _, _, _⟩ := hsp7.ok hX7
              have HB7 : Hid (Below W.heap.size W w7) := HB6.out.trans (hb7.mono HB6.out.size)
              clear hsp7 hb7 hX7
              go_wp2
              go_ret
              exact ⟨rfl, HB7.out⟩
          | ok nn =>
            obtain ⟨q6, d6, rfl, hb6, hin6, hrd6, hdm6, hrm6⟩ := hsp.ok hX6
            have HB6 : Hid (Below W.heap.size W w6) := HB5.out.trans (hb6.mono HB5.out.size)
            have HIN6 := Lib.hid (HIN5.out.below hb6)
            have HI6 := Lib.hid hin6
            have HX6 := Lib.hid hX6
            have HRM6 := Lib.hid hrm6
            clear hsp hb6 hX6 hVU hin6 hrm6
            go_wp2_with fail
            refine (split_any U w6).mono ?_
            intro e w7 hsp7
            cases hX7 : spl U.data.toList with
            | bad E7 a7 =>
              obtain ⟨rfl, hb7⟩ := hsp7.bad hX7
              have h70 : E7 ≠ 0 := by
                rcases spl_bad hX7 with ⟨rfl, _⟩ | ⟨_, h, _⟩
                · decide
                · exact h
              have d70 : (E7 != 0) = true := by simpa using h70
              have HB7 : Hid (Below W.heap.size W w7) := HB6.out.trans (hb7.mono HB6.out.size)
              clear hsp7 hb7 hX7 h70
              go_wp2
              go_ret
              exact ⟨rfl, HB7.out⟩
            | ok kk =>
              obtain ⟨q7, d7, rfl, hb7, hin7, hrd7, hdm7, hrm7⟩ := hsp7.ok hX7
              have HB7 : Hid (Below W.heap.size W w7) := HB6.out.trans (hb7.mono HB6.out.size)
              have HIN7 := Lib.hid (HIN6.out.below hb7)
              have HI67 := Lib.hid (HI6.out.below hb7)
              have hnn : nn = rows ++ kk := by
                have h1 := (spl_ok HX6.out).2
                rw [split_more (fun r hr => (HNE.out r hr).1) (spl_ok hX7).2] at h1
                exact (Sp.ok.inj h1).symm
              subst hnn
              obtain ⟨m, hm⟩ : ∃ m, m = kk.length := ⟨_, rfl⟩
              have HM7 := Lib.hid hm
              have hlen : (rows ++ kk).length = n + m := by rw [List.length_append, hm, HN.out]
              rw [hlen] at hrd6 ⊢
              rw [← hm] at hrd7 ⊢
              have hd6 : d6 ≤ 9223372036854775807 := hdm6
              have hd7 : d7 ≤ 9223372036854775807 := hdm7
              have HI7 := Lib.hid hin7
              have HRM7 := Lib.hid hrm7
              clear hsp7 hb7 hX7 hin7 hrm7 hm hlen hdm6 hdm7
              have hSM := same_any rows q6 q d6 d w7 HI67.out.left HIN7.out (by rw [← HN.out]; unfold maxLen; omega) HRM.out
              rw [← show n = _ from HN.out] at hSM
              go_wp2_with fail
              refine hSM.mono ?_
              rintro e w8 ⟨rfl, hb8⟩
              have HB8 : Hid (Below W.heap.size W w8) := HB7.out.trans (hb8.mono HB7.out.size)
              have HI8 := Lib.hid (HI67.out.below hb8)
              have HK8 := Lib.hid (HI7.out.below hb8)
              have HS8 : Hid (∀ p c, RowsIn w8 p kk → Calls Tryd.prog 11 #[.slice p m c, .slice q7 m d7] w8 fun e w' => e = .returned (.bool true) ∧ Below w8.heap.size w8 w') := fun p c h => by
                have := same_any kk p q7 c d7 w8 h HK8.out (by rw [← show m = _ from HM7.out]; unfold maxLen; omega) HRM7.out
                rw [← show m = _ from HM7.out] at this
                exact this
              clear hSM hb8
              go_wp2_with fail
              case inl =>
                have hk0 : kk.length = 0 := by rw [← show m = _ from HM7.out]; omega
                refine (HS8.out q6 0 (fun i hi => absurd hi (by omega))).mono ?_
                rintro e w9 ⟨rfl, hb9⟩
                have HB9 : Hid (Below W.heap.size W w9) := HB8.out.trans (hb9.mono HB8.out.size)
                clear hb9 hk0
                go_wp2
                go_ret
                exact ⟨rfl, HB9.out⟩
              case inr =>
                have hbh : RowsIn w8 (q6.map fun x => x.add n) kk := by rw [show n = _ from HN.out]; exact HI8.out.behind
                refine (HS8.out _ _ hbh).mono ?_
                rintro e w9 ⟨rfl, hb9⟩
                have HB9 : Hid (Below W.heap.size W w9) := HB8.out.trans (hb9.mono HB8.out.size)
                clear hb9 hbh
                go_wp2
                go_ret
                exact ⟨rfl, HB9.out⟩
end Go.Proofs.YtkficmbkoinjjaaDoor.lawAgain
