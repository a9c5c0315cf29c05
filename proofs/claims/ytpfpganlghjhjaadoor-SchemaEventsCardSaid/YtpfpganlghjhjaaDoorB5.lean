/- Contract of the laws' helper typed, no names given. -/
import Derived.Test.YtpfpganlghjhjaaDoorB2
import Derived.Test.YtpfpganlghjhjaaDoorA8
import Derived.Deep.AppendLies
import Derived.Deep.RegionLaw
import Derived.IntWalk
import Derived.Laws.IdiomRangeMap
namespace Go.Proofs.YtpfpganlghjhjaaDoor
open Go Go.RowKit
set_option maxHeartbeats 4000000
set_option linter.unusedVariables false
set_option linter.unusedSimpArgs false
/-- the i-th name: a and the number -/
def aN (i : Nat) : ByteArray := ⟨#[97]⟩ ++ decS i
theorem aN_list (i : Nat) : (aN i).toList = 97 :: (decS i).toList := by
  rw [ByteArray.toList_eq, ByteArray.toList_eq]
  unfold aN
  simp
theorem aN_facts : ∀ i : Fin 16, attrL (97 :: (decS i).data.toList) = true ∧ ∀ j : Fin 16, ((97 : UInt8) :: (decS j).data.toList == 97 :: (decS i).data.toList) = decide (j = i) := by decide +kernel
theorem aN_attr {i : Nat} (h : i < 16) : attrL (aN i).toList = true := by
  rw [aN_list, ByteArray.toList_eq]
  exact (aN_facts ⟨i, h⟩).1
theorem aN_ne {i j : Nat} (hi : i < 16) (hj : j < i) : ((aN j).toList == (aN i).toList) = false := by
  rw [aN_list, aN_list, ByteArray.toList_eq, ByteArray.toList_eq]
  refine ((aN_facts ⟨i, hi⟩).2 ⟨j, by omega⟩).trans ?_
  simp
  omega
/-- a row of numbers lies there -/
def Nums (w : World) (p : Option Addr) (len : Nat) : Prop := ∀ i, i < len → ∃ (b o : Nat) (n : Int), p = some ⟨b, o, none⟩ ∧ w.cell? ⟨b, o + i, none⟩ = some (.int .i64 n)
/-- attributes that typed makes: a0, a1 .., of the three kinds -/
def GoodL (l : List (ByteArray × Int)) : Prop := ∀ i (h : i < l.length), l[i].1 = aN i ∧ (l[i].2 = 1 ∨ l[i].2 = 2 ∨ l[i].2 = 3)
theorem good_snoc {l : List (ByteArray × Int)} (h : GoodL l) {kd : Int} (hk : kd = 1 ∨ kd = 2 ∨ kd = 3) : GoodL (l ++ [(aN l.length, kd)]) := by
  intro i hi
  by_cases hl : i < l.length
  · have := h i hl
    rw [List.getElem_append_left hl]
    exact this
  · have hil : i = l.length := by simp at hi; omega
    subst hil
    simp
    exact hk
theorem cellsL_snoc (l : List (ByteArray × Int)) (a : ByteArray × Int) : cellsL (l ++ [a]) = cellsL l ++ [.string a.1, .int .i64 a.2] := by simp [cellsL]
theorem good_fault {l : List (ByteArray × Int)} (h : GoodL l) (h16 : l.length ≤ 16) (k : Nat) (hk : k < l.length) : faultAt l k = 0 := by
  rw [faultAt_is hk]
  obtain ⟨h1, h2⟩ := h k hk
  unfold faultA
  rw [if_neg (by rw [h1, aN_attr (by omega)]; decide), if_neg (by rcases h2 with e | e | e <;> rw [e] <;> decide)]
  refine if_neg ?_
  intro hh
  unfold hasN at hh
  rw [List.any_eq_true] at hh
  obtain ⟨x, hx, he⟩ := hh
  rw [List.mem_take_iff_getElem] at hx
  obtain ⟨j, hj, rfl⟩ := hx
  rw [(h j (by omega)).1, h1, aN_ne (by omega) (by omega)] at he
  cases he
/-- what is owned reads as attributes -/
theorem atv_of_own {w : World} {B : Nat} {v : Value} {l : List (ByteArray × Int)} (h : w.ownsRow B 38 2 v l.length (cellsL l)) (hv : l = [] → v = .slice none 0 0) : AtV w v l := by
  rcases h.2 with ⟨rfl, h0⟩ | ⟨g, cap, cur, rfl, _, _, h1, h2, _, _⟩
  · exact .inl ⟨rfl, List.eq_nil_of_length_eq_zero h0⟩
  · by_cases hl : l.length = 0
    · have e := hv (List.eq_nil_of_length_eq_zero hl)
      cases e
    · refine .inr ⟨g, 0, cap, rfl, by omega, h1, h2, fun i hi => ?_⟩
      have hrow := fun j u hu => h.cells (g := g) rfl j u hu
      obtain ⟨k1, k2⟩ := cellsL_name l i hi
      have c1 := hrow _ _ k1
      have c2 := hrow _ _ k2
      rw [Addr.add_lit] at c1 c2
      exact ⟨g, 0, rfl, c1, by rw [Nat.add_assoc]; exact c2⟩
theorem name_T : nameL (⟨#[84]⟩ : ByteArray).toList = true := by rw [ByteArray.toList_eq]; decide +kernel
theorem lit_cells (w : World) (l : List Value) (t : TypeId) : ∀ j u, l[j]? = some u → (w.alloc (.cells l.toArray t)).cell? ((⟨w.heap.size, 0, none⟩ : Addr).add j) = some u := by
  intro j u h
  have hb : (w.alloc (.cells l.toArray t)).heap[w.heap.size]? = some (.cells l.toArray t (0, 0)) := heap_alloc_new w _
  have e : ((⟨w.heap.size, 0, none⟩ : Addr).add j) = ⟨w.heap.size, j, none⟩ := by unfold Addr.add; split <;> simp_all
  rw [e, cell_of_row _ _ j _ _ _ hb]
  simpa using h
theorem own_below {w w2 : World} {B : Nat} {v : Value} {n : Nat} {xs : List Value} (h : w.ownsRow B 38 2 v n xs) (hb : Below w.heap.size w w2) : w2.ownsRow B 38 2 v n xs := by
  have hg : w.grownBy w2 none := ⟨hb.os, hb.tape, hb.output, hb.size, fun i hi _ => hb.block i hi⟩
  refine h.kept hg ?_
  cases v.ownBlock with
  | none => exact .inl rfl
  | some k => exact .inr (by simp)
theorem grown_set (W : World) (b o : Nat) (v : Value) : W.grownBy (W.setCell ⟨b, o, none⟩ v) (some b) :=
  ⟨((Below.refl 0 W).setCell (p := ⟨b, o, none⟩) (Nat.zero_le _) v).os, ((Below.refl 0 W).setCell (p := ⟨b, o, none⟩) (Nat.zero_le _) v).tape, ((Below.refl 0 W).setCell (p := ⟨b, o, none⟩) (Nat.zero_le _) v).output, ((Below.refl 0 W).setCell (p := ⟨b, o, none⟩) (Nat.zero_le _) v).size, fun k _ hk => Below.heap_setCell _ _ _ k (fun e => hk (by rw [e]))⟩
theorem own_set {w : World} {B b o : Nat} {v u : Value} {n : Nat} {xs : List Value} (h : w.ownsRow B 38 2 v n xs) (hb : b < B) : (w.setCell ⟨b, o, none⟩ u).ownsRow B 38 2 v n xs := by
  refine h.kept (grown_set w b o u) ?_
  rcases h.2 with ⟨rfl, _⟩ | ⟨g, cap, cur, rfl, hg, _⟩
  · exact .inl rfl
  · refine .inr fun e => ?_
    simp only [Value.ownBlock, Option.some.injEq] at e
    omega
/-- what typed answers -/
def TypedPost (n : Nat) (w : World) (e : Ending) (w' : World) : Prop := ∃ l v, e = .returned (.agg #[.string ⟨#[84]⟩, v]) ∧ Below w.heap.size w w' ∧ AtV w' v l ∧ l.length ≤ 16 ∧ GoodL l
/-- how far it has come: its variable's block T holds the attributes so far, in a row of its own -/
def TypedRel (w : World) (T : Nat) (k : Nat) (wr : World) : Prop :=
  ∃ (l : List (ByteArray × Int)) (v : Value), l.length = k ∧ GoodL l ∧ Below (w.heap.size + 1) (w.alloc (Obj.cells #[.string ⟨#[]⟩, .slice none 0 0] 27)) wr ∧ T < wr.heap.size ∧ wr.cell? ⟨T, 0, none⟩ = some (.string ⟨#[84]⟩) ∧ wr.cell? ⟨T, 1, none⟩ = some v ∧ wr.frozen? ⟨T, 1, none⟩ = false ∧ wr.ownsRow (T + 1) 38 2 v k (cellsL l) ∧ (l = [] → v = .slice none 0 0)
set_option maxRecDepth 100000 in
theorem typed_T (p : Option Addr) (n c : Nat) (hn : n ≤ maxLen) (w : World) (hK : Kw w) (hN : Nums w p n) : Calls Tryd.prog 7 #[.string ⟨#[84]⟩, .slice none 0 0, .slice p n c] w (TypedPost n w) := by
  obtain ⟨i0, hi, hz0, hz1, hz2⟩ := info_parts infoAttr
  unfold maxLen at hn
  have HN := Lib.hid hN
  have HK := Lib.hid hK
  clear hN hK
  have HNAME : Hid (∀ wx, Kw wx → Calls Tryd.prog 16 #[.string ⟨#[84]⟩] wx fun e w' => e = .returned (.bool true) ∧ Below wx.heap.size wx w') := fun wx hx => by
    have := name_any ⟨#[84]⟩ wx hx
    rw [name_T] at this
    exact this
  have H0 : Hid (∀ o, Below w.heap.size w (w.alloc o)) := fun o => (Below.refl _ _).alloc (Nat.le_refl _) _
  go_enter Tryd.func7, Tryd.ntmps7
  go_wp2_with fail
  refine (HNAME.out _ (HK.out.below (H0.out _))).mono ?_
  rintro e w1 ⟨rfl, hb1⟩
  obtain ⟨hc1, hf1⟩ := bcell hb1
  have hs1 := hb1.size
  simp at hs1
  have HB1 : Hid (Below w.heap.size w w1) := (H0.out _).trans (hb1.mono (by simp))
  have HBX := Lib.hid hb1
  have HW0 : Hid (w.heap.size < w1.heap.size) := hs1
  obtain ⟨T, hT⟩ : ∃ T, T = w1.heap.size := ⟨_, rfl⟩
  have HT : Hid (w.heap.size + 1 ≤ T) := by show _ ≤ _; omega
  have HB1' : Hid (Below (w.heap.size + 1) (w.alloc (Obj.cells #[.string ⟨#[]⟩, .slice none 0 0] 27)) w1) := by
    have := HBX.out
    simp at this
    exact this
  clear hc1 hf1 hb1 HBX
  go_wp2
  rw [← hT]
  go_loopw [8] (fun i wr => ∃ k : Nat, k ≤ n ∧ k ≤ 16 ∧ i = .int .i64 k ∧ TypedRel w T k wr) (fun i _ => 16 - (intOf i).toNat)
  case atStart =>
    refine ⟨0, Nat.zero_le _, Nat.zero_le _, rfl, [], .slice none 0 0, rfl, fun i hi => absurd hi (Nat.not_lt_zero _), HB1'.out.alloc (by omega) _, by rw [hT]; simp, by rw [hT]; simp [go_sem], by rw [hT]; simp [go_sem], by rw [hT]; simp [go_sem], World.ownsRow_nil _ _ _ _, fun _ => rfl⟩
  case round =>
    obtain ⟨k, hkn, hk16, rfl, l, v, hlk, hgl, hb, hTl, t0, t1, tf, hown, hnil⟩ := hrel
    have hTT := HT.out
    clear hT hs1
    have zs := hb.size
    simp at zs
    by_cases hlt : k < n
    · by_cases h16 : k < 16
      · obtain ⟨b, o, x, rfl, c0⟩ := HN.out k hlt
        have q0 := lt_of_cell c0
        have HBW : Hid (Below w.heap.size w wr) := (H0.out _).trans (hb.mono (by omega))
        have f0 := (HBW.out.cell (p := ⟨b, o + k, none⟩) (by exact q0)).trans c0
        have q1 : b < wr.heap.size := by omega
        have HG := Lib.hid hgl
        have HNIL := Lib.hid hnil
        have HL := Lib.hid hlk
        have hds : (decS k).size ≤ 2 := by
          unfold decS
          split
          · show 1 ≤ 2; omega
          · simp; show 1 + 1 ≤ 2; omega
        clear c0 hgl hnil hlk
        go_wp2_with (go_at_call 18; refine (decimal_any k (by omega) _).mono ?_; rintro e w2 ⟨rfl, hb2⟩; obtain ⟨hc2, hf2⟩ := bcell hb2)
        have u0 := (hb2.cell (p := ⟨T, 0, none⟩) (by exact hTl)).trans t0
        have u1 := (hb2.cell (p := ⟨T, 1, none⟩) (by exact hTl)).trans t1
        have uf := (hb2.frozen (p := ⟨T, 1, none⟩) (by exact hTl)).trans tf
        have x0 := (hb2.cell (p := ⟨b, o + k, none⟩) (by exact q1)).trans f0
        have hown2 := own_below hown hb2
        have zs2 := hb2.size
        have zT : T < w2.heap.size := by omega
        have zb : b < w2.heap.size := by omega
        have HB2 : Hid (Below (w.heap.size + 1) (w.alloc (Obj.cells #[.string ⟨#[]⟩, .slice none 0 0] 27)) w2) := hb.trans (hb2.mono (by omega))
        obtain ⟨nm, hnm⟩ : ∃ nm, nm = (⟨#[97]⟩ ++ decS k : ByteArray) := ⟨_, rfl⟩
        rw [← hnm]
        have HNM : Hid (nm = aN k) := hnm
        clear hnm hc2 hf2 hb2 hb hown t0 t1 tf f0 hds
        go_loopw [9, 10] (fun s9 j wx => ∃ j' : Nat, j' ≤ k ∧ j = .int .i64 j' ∧ s9 = .string nm ∧ wx = w2) (fun _ j _ => k - (intOf j).toNat)
        case atStart => exact ⟨0, Nat.zero_le _, rfl, rfl, rfl⟩
        case round =>
          obtain ⟨j, hj, rfl, rfl, hwx⟩ := hrel
          obtain rfl := hwx.symm
          by_cases hjk : j < k
          · obtain ⟨g, cap, rfl, hg1, hg2⟩ := hown2.form (by omega)
            have crow := hown2.cells (g := g) rfl _ _ (cellsL_name l j (by rw [HL.out]; exact hjk)).1
            rw [Addr.add_lit, Nat.zero_add, (HG.out j (by rw [HL.out]; exact hjk)).1] at crow
            have hne : ((aN j).toList == nm.toList) = false := by rw [HNM.out]; exact aN_ne h16 hjk
            obtain ⟨an, han⟩ : ∃ an, an = aN j := ⟨_, rfl⟩
            rw [← han] at crow hne
            clear han
            have v1 : (j : Int) < (k : Int) := by omega
            go_wp2
            go_roundw
            case rel => exact ⟨j + 1, by omega, by go_num, rfl, by first | rfl | trivial⟩
            case measure => simp [intOf]; omega
          · have hm1 : k + 1 ≤ maxLen := by unfold maxLen; omega
            have hm2 : (k + 1) * 24 ≤ 140737488355328 := by omega
            have hB1 : ∀ o : Obj, T + 1 ≤ (w2.alloc o).drew.heap.size := by intro o; simp; omega
            have v0 : (0 : Int) ≤ (k : Int) := by omega
            have v1 : (k : Int) < (n : Int) := by omega
            obtain ⟨kd, hkd⟩ : ∃ kd : Int, kd = 1 + x % 3 := ⟨_, rfl⟩
            have HKD : Hid (kd = 1 ∨ kd = 2 ∨ kd = 3) := by show _ ∨ _; omega
            have wk : IntKind.i64.wrap (1 + x % 3) = kd := by rw [hkd]; exact IntWalk.i64_in _ (by omega)
            clear hkd
            have hne3 : some T ≠ v.ownBlock := by
              intro e
              rcases hown2.2 with ⟨rfl, _⟩ | ⟨g, cap, cur, rfl, hg, _⟩
              · cases e
              · simp only [Value.ownBlock, Option.some.injEq] at e
                omega
            have HU0 := Lib.hid u0
            go_wp2_with fail
            go_region_law (first | (go_simp; go_at_call 11; refine (part_any x 3 (by omega) _).mono ?_; rintro e w' ⟨rfl, hw⟩; obtain rfl := hw.symm) | (refine step_append_lies _ rfl _ _ 25 rfl (T + 1) 38 i0 (.agg #[.string ⟨#[]⟩, .int .i64 0]) 2 24 Tryd.underlying25 hi hz0 hz1 hz2 rfl (by decide) v k (cellsL l) rfl (hown2.alloc _).drew ⟨w2.heap.size, 0, none⟩ 1 1 [.string nm, .int .i64 kd] rfl rfl (fun j u h => lit_cells w2 _ _ j u h) (by intro u hu; simp at hu; rcases hu with rfl | rfl <;> rfl) (by decide) hm1 hm2 (hB1 _) (w2.heap.size + 1) (by simp) ?_; intro g cap w3 hown3 hgrow3 hwhere3 hlt3; have k1 : w3.cell? ⟨T, 1, none⟩ = some v := (World.cell?_of_block (a := ⟨T, 1, none⟩) (hgrow3.block T (by simp; omega) hne3)).trans (by simp [go_sem, u1, zT]); have k2 : w3.frozen? ⟨T, 1, none⟩ = false := (World.frozen?_of_block (a := ⟨T, 1, none⟩) (hgrow3.block T (by simp; omega) hne3)).trans (by simp [go_sem, uf, zT]); have k0 : w3.cell? ⟨T, 0, none⟩ = some (.string ⟨#[84]⟩) := (World.cell?_of_block (a := ⟨T, 0, none⟩) (hgrow3.block T (by simp; omega) hne3)).trans (by simp [go_sem, u0, zT])))
            all_goals
              have HOB : ∀ q, v.ownBlock = some q → w.heap.size + 1 ≤ q := by
                intro q e
                rcases hown2.2 with ⟨rfl, _⟩ | ⟨g', cap', cur, rfl, hg, _⟩
                · cases e
                · simp only [Value.ownBlock, Option.some.injEq] at e
                  omega
              have hB3 : Below (w.heap.size + 1) (w.alloc (Obj.cells #[.string ⟨#[]⟩, .slice none 0 0] 27)) w3 := ((HB2.out.alloc (by omega) _).drew).grown hgrow3 (by simp; omega) HOB
              have zs3 := hgrow3.size
              simp at zs3
              have hone : (aN l.length, kd) = (nm, kd) := by rw [HNM.out, HL.out]
              go_wp2
              go_roundw
              case rel =>
                refine ⟨k + 1, by omega, by omega, by go_num, l ++ [(nm, kd)], .slice (some ⟨g, 0, none⟩) (k + 1) cap, by simp [HL.out], ?_, hB3.setCell (by exact hTT) _, by simp [World.setCell]; omega, by simp [go_sem, k0], by simp [go_sem, k1], by simp [go_sem, k2], ?_, fun e => by simp at e⟩
                · rw [← hone]
                  exact good_snoc HG.out HKD.out
                · rw [cellsL_snoc]
                  exact own_set hown3 (by omega)
              case measure => simp [intOf]; omega
      · have hkk : k = 16 := by omega
        subst hkk
        have hcc : ∀ o, wr.cell? ⟨w.heap.size, o, none⟩ = (w.alloc (Obj.cells #[.string ⟨#[]⟩, .slice none 0 0] 27)).cell? ⟨w.heap.size, o, none⟩ := fun o => (bcell hb).1 _ o (by omega)
        have hff : ∀ o, wr.frozen? ⟨w.heap.size, o, none⟩ = (w.alloc (Obj.cells #[.string ⟨#[]⟩, .slice none 0 0] 27)).frozen? ⟨w.heap.size, o, none⟩ := fun o => (bcell hb).2 _ o (by omega)
        have HBW : Hid (Below w.heap.size w wr) := (H0.out _).trans (hb.mono (by omega))
        have HOWN := Lib.hid hown
        have HG := Lib.hid hgl
        have HNIL := Lib.hid hnil
        have HL := Lib.hid hlk
        have HK16 := Lib.hid hk16
        clear hgl hnil hlk hb
        rcases hown.2 with ⟨_, h0⟩ | ⟨g, cap, cur, rfl, _⟩
        · omega
        · clear hown
          go_wp2
          refine bodyPost_ret (v := .agg #[.string ⟨#[84]⟩, .slice (some ⟨g, 0, none⟩) 16 cap]) (by simp [results, Tryd.results7, go_sem, hcc, hff]) rfl ?_
          refine ⟨l, .slice (some ⟨g, 0, none⟩) 16 cap, rfl, ?_, atv_of_own (B := T + 1) (by rw [HL.out]; exact own_set (own_set HOWN.out (by omega)) (by omega)) (fun e => by first | rfl | exact HNIL.out e), by rw [HL.out]; exact HK16.out, HG.out⟩
          repeat (first | exact HBW.out | apply Below.drew | refine Below.setCell ?_ (by show w.heap.size ≤ w.heap.size; omega) _)
    · have hkk : k = n := by omega
      subst hkk
      have hcc : ∀ o, wr.cell? ⟨w.heap.size, o, none⟩ = (w.alloc (Obj.cells #[.string ⟨#[]⟩, .slice none 0 0] 27)).cell? ⟨w.heap.size, o, none⟩ := fun o => (bcell hb).1 _ o (by omega)
      have hff : ∀ o, wr.frozen? ⟨w.heap.size, o, none⟩ = (w.alloc (Obj.cells #[.string ⟨#[]⟩, .slice none 0 0] 27)).frozen? ⟨w.heap.size, o, none⟩ := fun o => (bcell hb).2 _ o (by omega)
      have HBW : Hid (Below w.heap.size w wr) := (H0.out _).trans (hb.mono (by omega))
      have HOWN := Lib.hid hown
      have HG := Lib.hid hgl
      have HNIL := Lib.hid hnil
      have HL := Lib.hid hlk
      have HK16 := Lib.hid hk16
      clear hgl hnil hlk hb
      rcases hown.2 with ⟨rfl, _⟩ | ⟨g, cap, cur, rfl, _⟩
      · clear hown
        go_wp2
        refine bodyPost_ret (v := .agg #[.string ⟨#[84]⟩, .slice none 0 0]) (by simp [results, Tryd.results7, go_sem, hcc, hff]) rfl ?_
        refine ⟨l, .slice none 0 0, rfl, ?_, atv_of_own (B := T + 1) (by rw [HL.out]; exact own_set (own_set HOWN.out (by omega)) (by omega)) (fun e => by first | rfl | exact HNIL.out e), by rw [HL.out]; exact HK16.out, HG.out⟩
        repeat (first | exact HBW.out | apply Below.drew | refine Below.setCell ?_ (by show w.heap.size ≤ w.heap.size; omega) _)
      · clear hown
        go_wp2
        refine bodyPost_ret (v := .agg #[.string ⟨#[84]⟩, .slice (some ⟨g, 0, none⟩) k cap]) (by simp [results, Tryd.results7, go_sem, hcc, hff]) rfl ?_
        refine ⟨l, .slice (some ⟨g, 0, none⟩) k cap, rfl, ?_, atv_of_own (B := T + 1) (by rw [HL.out]; exact own_set (own_set HOWN.out (by omega)) (by omega)) (fun e => by first | rfl | exact HNIL.out e), by rw [HL.out]; exact HK16.out, HG.out⟩
        repeat (first | exact HBW.out | apply Below.drew | refine Below.setCell ?_ (by show w.heap.size ≤ w.heap.size; omega) _)
end Go.Proofs.YtpfpganlghjhjaaDoor
