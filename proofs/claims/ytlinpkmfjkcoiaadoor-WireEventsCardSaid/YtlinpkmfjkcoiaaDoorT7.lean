/- Contract of the document's own answer's reader: value. -/
import Derived.Test.YtlinpkmfjkcoiaaDoorT6
namespace Go.Proofs.YtlinpkmfjkcoiaaDoor
open Go Go.RowKit
set_option maxHeartbeats 4000000
set_option linter.unusedVariables false
set_option linter.unusedSimpArgs false
theorem numW_full (l : List UInt8) : numW (-9223372036854775808) 9223372036854775807 l = num l := by
  unfold numW Rd.only
  cases h : num l with
  | bad E => rfl
  | ok n k =>
    obtain ⟨⟨h1, h2⟩, _, _⟩ := num_form.back l n k h
    simp only
    rw [if_pos (by simp [h1, h2])]
set_option maxRecDepth 100000 in
theorem refVal_any (R : Nat) (p : Option Addr) (c : Nat) (l : List UInt8) (a : Nat) (f : Int) (w : World) (h : Lies w R p c l a f) :
    Calls Tryd.prog 61 #[.pointer (some ⟨R, 0, none⟩)] w (Val w R (.slice p l.length c) l a f) := by
  have H := Lib.hid h
  have hR := h.rd.lt
  have HX : Hid (∀ wx a' f', Lies wx R p c l a' f' → Calls Tryd.prog 86 #[.pointer (some ⟨R, 0, none⟩)] wx (One wx R (.slice p l.length c) l a' f')) := fun wx a' f' h0 => refOne_any R p c l a' f' wx h0
  have hA0 := (After.refl h.rd h.le).alloc (Obj.cells #[.int .i64 0, .int .i64 0, .string ⟨#[]⟩, .bool false] 96)
  clear h
  go_enter Tryd.func61, Tryd.ntmps61
  go_wp2_with fail
  have HA0 := Lib.hid hA0
  have HL0 := Lib.hid (H.out.after hA0)
  have F0 : Hid (Four (w.alloc (Obj.cells #[.int .i64 0, .int .i64 0, .string ⟨#[]⟩, .bool false] 96)) w.heap.size ⟨0, 0, ⟨#[]⟩, false⟩) := Four.new w ⟨0, 0, ⟨#[]⟩, false⟩
  have S0 : Hid (w.heap.size < (w.alloc (Obj.cells #[.int .i64 0, .int .i64 0, .string ⟨#[]⟩, .bool false] 96)).heap.size) := by show _ < _; simp
  obtain ⟨w0, hw0⟩ : ∃ x, x = w.alloc (Obj.cells #[.int .i64 0, .int .i64 0, .string ⟨#[]⟩, .bool false] 96) := ⟨_, rfl⟩
  rw [← hw0] at HA0 HL0 S0 F0 ⊢
  obtain ⟨g0, hg0⟩ : ∃ g0, g0 = w.heap.size := ⟨_, rfl⟩
  have HG0 := Lib.hid hg0
  rw [← hg0] at F0 S0 hR ⊢
  refine (HX.out w0 a f HL0.out).mono ?_
  rintro e w1 ⟨x, a1, f1, rfl, haf1, hca1, hno1⟩
  have hg1 := haf1.g
  have HA1 := Lib.hid (HA0.out.trans haf1)
  have HC1 := Lib.hid hca1
  have HX8 : Hid ((x.toNat : Int) < 256) := by have := x.toNat_lt; show _ < _; omega
  have F1 := Lib.hid (F0.out.keeps hg1 (by omega))
  have s1 := Nat.lt_of_lt_of_le S0.out hg1.size
  have S1 : Hid (g0 < w1.heap.size) := s1
  have b2 := haf1.r.c2
  clear haf1 hca1 hg1 hw0 hA0 hg0 s1 hno1
  have hx8 := HX8.out
  obtain ⟨g1, hg1⟩ : ∃ g1, g1 = w1.heap.size := ⟨_, rfl⟩
  have HG1 := Lib.hid hg1
  have q0 : w.heap.size ≤ g0 := by have := HG0.out; omega
  have q1 : w.heap.size ≤ g1 := by have := HG1.out; have := S1.out; omega
  have q2 : R < w.heap.size := by have := HG0.out; omega
  have Q0 := Lib.hid q0
  have Q1 := Lib.hid q1
  have Q2 := Lib.hid q2
  by_cases hf : f1 = 0
  · have df : (f1 != 0) = false := by simpa using hf
    have HF := Lib.hid hf
    have hsR : g1 ≠ R := by have := HA1.out.r.lt; omega
    have hs0 : g1 ≠ g0 := by have := S1.out; omega
    have hs0' : g0 ≠ g1 := Ne.symm hs0
    have hsR0 : g0 ≠ R := by omega
    clear q0 q1 q2 hf
    have HA2 : Hid (After w (w1.alloc (Obj.cells #[.int .i64 (x.toNat : Int), .int .i64 0, .string ⟨#[]⟩, .bool false] 96)) R (.slice p l.length c) l.length a1 f1) := HA1.out.alloc _
    have F1' : Hid (Four (w1.alloc (Obj.cells #[.int .i64 (x.toNat : Int), .int .i64 0, .string ⟨#[]⟩, .bool false] 96)) g0 ⟨0, 0, ⟨#[]⟩, false⟩) := F1.out.below ((Below.refl _ _).alloc (Nat.le_refl _) _)
    have F2 : Hid (Four (w1.alloc (Obj.cells #[.int .i64 (x.toNat : Int), .int .i64 0, .string ⟨#[]⟩, .bool false] 96)) g1 ⟨x.toNat, 0, ⟨#[]⟩, false⟩) := by show Four _ _ _; rw [hg1]; exact Four.new w1 ⟨x.toNat, 0, ⟨#[]⟩, false⟩
    go_upto_region 5 with fail
    obtain ⟨w2, hw2⟩ : ∃ w2, w2 = w1.alloc (Obj.cells #[.int .i64 (x.toNat : Int), .int .i64 0, .string ⟨#[]⟩, .bool false] 96) := ⟨_, rfl⟩
    rw [← hw2] at HA2 F1' F2 ⊢
    rw [← hg1]
    clear hw2 hg1 b2
    obtain ⟨y0, y1, y2, y3, yz0, yz1, yz2, yz3⟩ := F2.out
    by_cases h1 : x.toNat = 1
    · have d1 : ((x.toNat : Int) == 1) = true := by simp; omega
      have H1 := Lib.hid h1
      have HB1 : Hid (Came a a1 f f1 (byteW 1 3 (l.drop a)) (· = x)) := HC1.out.only (fun b => decide (1 ≤ b.toNat) && decide (b.toNat ≤ 3)) (fun _ => rfl) (fun _ => rfl) (fun _ h => by simp [h1] at h)
      clear h1
      go_wp2_with fail
      have hn := refNum_any R p c l a1 f1 (-9223372036854775808) 9223372036854775807 w2 (H.out.after HA2.out)
      refine hn.mono ?_
      rintro e w3 ⟨n, a2, f2, rfl, hi64, haf3, hca3⟩
      rw [numW_full] at hca3
      have F1'' := Lib.hid (F1'.out.keeps haf3.g hsR0)
      have F2'' := Lib.hid (F2.out.keeps haf3.g hsR)
      have HA3 := Lib.hid (HA2.out.trans haf3)
      have HC3 := Lib.hid hca3
      clear y0 y1 y2 y3 yz0 yz1 yz2 yz3 hn haf3 hca3
      obtain ⟨y0, y1, y2, y3, yz0, yz1, yz2, yz3⟩ := F2''.out
      obtain ⟨x0, x1, x2, x3, xz0, xz1, xz2, xz3⟩ := F1''.out
      go_wp2
      refine bodyPost_ret (v := agg4 ⟨x.toNat, n, ⟨#[]⟩, false⟩) (by simp [results, Tryd.results61, go_sem, y0, y1, y2, y3, x0, x1, x2, x3]) rfl ?_
      have q0 := Q0.out
      have q1 := Q1.out
      have q2 := Q2.out
      refine ⟨⟨x.toNat, n, ⟨#[]⟩, false⟩, a2, f2, rfl, by repeat (first | exact HA3.out | refine After.set ?_ (by assumption) (by assumption) _ _), HB1.out.andThen (g := restR) ?_⟩
      unfold restR
      rw [if_pos H1.out]
      have := HC3.out.map (g := fun n => (⟨1, n, ⟨#[]⟩, false⟩ : V4))
      rw [H1.out]
      exact this
    · have d1 : ((x.toNat : Int) == 1) = false := by simp; omega
      have H1 := Lib.hid h1
      by_cases h2 : x.toNat = 2
      · have d2 : ((x.toNat : Int) == 2) = true := by simp; omega
        have H2 := Lib.hid h2
        have HB1 : Hid (Came a a1 f f1 (byteW 1 3 (l.drop a)) (· = x)) := HC1.out.only (fun b => decide (1 ≤ b.toNat) && decide (b.toNat ≤ 3)) (fun _ => rfl) (fun _ => rfl) (fun _ h => by simp [h2] at h)
        clear h1 h2
        go_wp2_with fail
        have hn := refText_any R p c l a1 f1 0 256 (Int.le_refl 0) w2 (H.out.after HA2.out)
        refine hn.mono ?_
        rintro e w3 ⟨s, a2, f2, rfl, hsz, haf3, hca3⟩
        have F1'' := Lib.hid (F1'.out.keeps haf3.g hsR0)
        have F2'' := Lib.hid (F2.out.keeps haf3.g hsR)
        have HA3 := Lib.hid (HA2.out.trans haf3)
        have HC3 := Lib.hid hca3
        clear y0 y1 y2 y3 yz0 yz1 yz2 yz3 hn haf3 hca3
        obtain ⟨y0, y1, y2, y3, yz0, yz1, yz2, yz3⟩ := F2''.out
        obtain ⟨x0, x1, x2, x3, xz0, xz1, xz2, xz3⟩ := F1''.out
        go_wp2
        refine bodyPost_ret (v := agg4 ⟨x.toNat, 0, ⟨s.toArray⟩, false⟩) (by simp [results, Tryd.results61, go_sem, y0, y1, y2, y3, x0, x1, x2, x3]) rfl ?_
        have q0 := Q0.out
        have q1 := Q1.out
        have q2 := Q2.out
        refine ⟨⟨x.toNat, 0, ⟨s.toArray⟩, false⟩, a2, f2, rfl, by repeat (first | exact HA3.out | refine After.set ?_ (by assumption) (by assumption) _ _), HB1.out.andThen (g := restR) ?_⟩
        unfold restR
        rw [if_neg H1.out, if_pos H2.out]
        have := HC3.out.map (g := fun l => (⟨2, 0, ⟨l.toArray⟩, false⟩ : V4))
        rw [H2.out]
        exact this
      · have d2 : ((x.toNat : Int) == 2) = false := by simp; omega
        have H2 := Lib.hid h2
        by_cases h3 : x.toNat = 3
        · have d3 : ((x.toNat : Int) == 3) = true := by simp; omega
          have H3 := Lib.hid h3
          have HB1 : Hid (Came a a1 f f1 (byteW 1 3 (l.drop a)) (· = x)) := HC1.out.only (fun b => decide (1 ≤ b.toNat) && decide (b.toNat ≤ 3)) (fun _ => rfl) (fun _ => rfl) (fun _ h => by simp [h3] at h)
          clear h1 h2 h3
          go_wp2_with fail
          have hn := HX.out w2 a1 f1 (H.out.after HA2.out)
          refine hn.mono ?_
          rintro e w3 ⟨y, a2, f2, rfl, haf3, hca3, hno3⟩
          have F1'' := Lib.hid (F1'.out.keeps haf3.g hsR0)
          have F2'' := Lib.hid (F2.out.keeps haf3.g hsR)
          have HA3 := Lib.hid (HA2.out.trans haf3)
          have HC3 := Lib.hid hca3
          clear y0 y1 y2 y3 yz0 yz1 yz2 yz3 hn haf3 hca3 hno3
          have HEY : Hid ((((y.toNat : Int) == 1) : Bool) = (y.toNat == 1)) := by
            show _ = _
            rw [Bool.eq_iff_iff]
            simp
            omega
          by_cases hy : 1 < y.toNat
          · have dy : decide ((1 : Int) < (y.toNat : Int)) = true := by simp; omega
            have HY := Lib.hid hy
            clear hy
            go_wp2_with fail
            refine (fault_dem R _ l.length a2 f2 31 w3 HA3.out.r HA3.out.le).mono ?_
            rintro e w4 ⟨rfl, f3, haf4, hd1, _, hd3⟩
            have HA4 := Lib.hid (HA3.out.trans haf4)
            have HB3 : Hid (Came a1 a2 f1 f3 (byteW 0 1 (l.drop a1)) (· = y)) := HC3.out.only (fun b => decide (0 ≤ b.toNat) && decide (b.toNat ≤ 1)) hd1 (fun h => by have := HY.out; simp at h; omega) (fun h _ => hd3 h rfl)
            have F1x := Lib.hid (F1''.out.keeps haf4.g hsR0)
            have F2x := Lib.hid (F2''.out.keeps haf4.g hsR)
            clear haf4 hd1 hd3
            obtain ⟨y0, y1, y2, y3, yz0, yz1, yz2, yz3⟩ := F2x.out
            obtain ⟨x0, x1, x2, x3, xz0, xz1, xz2, xz3⟩ := F1x.out
            go_wp2
            refine bodyPost_ret (v := agg4 ⟨x.toNat, 0, ⟨#[]⟩, (y.toNat : Int) == 1⟩) (by simp [results, Tryd.results61, go_sem, y0, y1, y2, y3, x0, x1, x2, x3]) rfl ?_
            have q0 := Q0.out
            have q1 := Q1.out
            have q2 := Q2.out
            refine ⟨⟨x.toNat, 0, ⟨#[]⟩, (y.toNat : Int) == 1⟩, a2, f3, rfl, by repeat (first | exact HA4.out | refine After.set ?_ (by assumption) (by assumption) _ _), HB1.out.andThen (g := restR) ?_⟩
            unfold restR
            rw [if_neg H1.out, if_neg H2.out]
            have := HB3.out.map (g := fun x => (⟨3, 0, ⟨#[]⟩, x.toNat == 1⟩ : V4))
            rw [H3.out, HEY.out]
            exact this
          · have dy : decide ((1 : Int) < (y.toNat : Int)) = false := by simp; omega
            have HB3 : Hid (Came a1 a2 f1 f2 (byteW 0 1 (l.drop a1)) (· = y)) := HC3.out.only (fun b => decide (0 ≤ b.toNat) && decide (b.toNat ≤ 1)) (fun _ => rfl) (fun _ => rfl) (fun _ h => by simp at h; omega)
            clear hy
            obtain ⟨y0, y1, y2, y3, yz0, yz1, yz2, yz3⟩ := F2''.out
            obtain ⟨x0, x1, x2, x3, xz0, xz1, xz2, xz3⟩ := F1''.out
            go_wp2
            refine bodyPost_ret (v := agg4 ⟨x.toNat, 0, ⟨#[]⟩, (y.toNat : Int) == 1⟩) (by simp [results, Tryd.results61, go_sem, y0, y1, y2, y3, x0, x1, x2, x3]) rfl ?_
            have q0 := Q0.out
            have q1 := Q1.out
            have q2 := Q2.out
            refine ⟨⟨x.toNat, 0, ⟨#[]⟩, (y.toNat : Int) == 1⟩, a2, f2, rfl, by repeat (first | exact HA3.out | refine After.set ?_ (by assumption) (by assumption) _ _), HB1.out.andThen (g := restR) ?_⟩
            unfold restR
            rw [if_neg H1.out, if_neg H2.out]
            have := HB3.out.map (g := fun x => (⟨3, 0, ⟨#[]⟩, x.toNat == 1⟩ : V4))
            rw [H3.out, HEY.out]
            exact this
        · have d3 : ((x.toNat : Int) == 3) = false := by simp; omega
          have HBD : Hid ((decide (1 ≤ x.toNat) && decide (x.toNat ≤ 3)) = false) := by
            show _ = _
            rw [Bool.and_eq_false_iff]
            simp
            omega
          clear h1 h2 h3
          go_wp2_with fail
          refine (fault_dem R _ l.length a1 f1 31 w2 HA2.out.r HA2.out.le).mono ?_
          rintro e w4 ⟨rfl, f3, haf4, hd1, _, hd3⟩
          have HA4 := Lib.hid (HA2.out.trans haf4)
          have HB3 : Hid (Came a a1 f f3 (byteW 1 3 (l.drop a)) (· = x)) := HC1.out.only (fun b => decide (1 ≤ b.toNat) && decide (b.toNat ≤ 3)) hd1 (fun h => by rw [HBD.out] at h; cases h) (fun h _ => hd3 h rfl)
          have HF3 : Hid (f3 = 31) := hd3 HF.out rfl
          have F1x := Lib.hid (F1'.out.keeps haf4.g hsR0)
          have F2x := Lib.hid (F2.out.keeps haf4.g hsR)
          clear haf4 hd1 hd3 y0 y1 y2 y3 yz0 yz1 yz2 yz3
          obtain ⟨y0, y1, y2, y3, yz0, yz1, yz2, yz3⟩ := F2x.out
          obtain ⟨x0, x1, x2, x3, xz0, xz1, xz2, xz3⟩ := F1x.out
          go_wp2
          refine bodyPost_ret (v := agg4 ⟨x.toNat, 0, ⟨#[]⟩, false⟩) (by simp [results, Tryd.results61, go_sem, y0, y1, y2, y3, x0, x1, x2, x3]) rfl ?_
          have q0 := Q0.out
          have q1 := Q1.out
          have q2 := Q2.out
          exact ⟨⟨x.toNat, 0, ⟨#[]⟩, false⟩, a1, f3, rfl, by repeat (first | exact HA4.out | refine After.set ?_ (by assumption) (by assumption) _ _), HB3.out.andThen (g := restR) (.inl ⟨by rw [HF3.out]; decide, rfl⟩)⟩
  · have df : (f1 != 0) = true := by simpa using hf
    have HB1 : Hid (Came a a1 f f1 (byteW 1 3 (l.drop a)) (· = x)) := HC1.out.only (fun b => decide (1 ≤ b.toNat) && decide (b.toNat ≤ 3)) (fun _ => rfl) (fun _ => rfl) (fun h => absurd h hf)
    have HF := Lib.hid hf
    clear hf hg1 q0 q1 q2
    obtain ⟨x0, x1, x2, x3, xz0, xz1, xz2, xz3⟩ := F1.out
    go_wp2
    refine bodyPost_ret (v := agg4 ⟨0, 0, ⟨#[]⟩, false⟩) (by simp [results, Tryd.results61, go_sem, x0, x1, x2, x3]) rfl ?_
    have q0 := Q0.out
    have q2 := Q2.out
    exact ⟨⟨0, 0, ⟨#[]⟩, false⟩, a1, f1, rfl, by repeat (first | exact HA1.out | refine After.set ?_ (by assumption) (by assumption) _ _), HB1.out.andThen (g := restR) (.inl ⟨HF.out, rfl⟩)⟩
end Go.Proofs.YtlinpkmfjkcoiaaDoor
