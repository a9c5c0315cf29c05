/- Contract of the document's own answer's unquoted. -/
import Derived.WalkKit
import Derived.WalkSpells
import Derived.WalkLawsBesides
import Derived.Lib.Hide
import Derived.BigQuiet
import Derived.LoopN
import Derived.LoopTactic
import Derived.OwnWalk
import Derived.Laws.IdiomStrings
import Derived.Laws.OwnMore
import Derived.Deep.AppendLies
import Derived.Deep.RegionLaw
import Derived.Test.YtkficmbkoinjjaaGreatDoorRE5
import Derived.Test.YtkficmbkoinjjaaGreatDoorRW1
namespace Go.Proofs.YtkficmbkoinjjaaGreatDoor.V
open Go Go.RowKit
set_option maxHeartbeats 4000000
set_option linter.unusedVariables false
set_option linter.unusedSimpArgs false
/-- what the call's first block holds -/
def Zero29 : Obj := Obj.cells #[.int .i64 0, .int .i64 0, .string ⟨#[]⟩, .bool false] 57
def UqRel (t : ByteArray) (w : World) (v : Value) (k : Nat) (wr : World) : Prop :=
  ∃ out : List UInt8, 1 ≤ k ∧ k ≤ t.size + 1 ∧ out.length ≤ k ∧ wr.ownsRow (w.heap.size + 1) 5 1 v out.length (Lib.byteCells out) ∧ Below (w.heap.size + 1) (w.alloc Zero29) wr ∧ URel t.data.toList out k
theorem uq_at {t : ByteArray} {k : Nat} (h : k < t.size) : t.data.toList[k]? = some t[k] := by
  rw [List.getElem?_eq_getElem (by simpa using h)]
  rfl
theorem byte_ne {c : UInt8} {n : UInt8} (h : c ≠ n) : ((c.toNat : Int) == (n.toNat : Int)) = false := by
  have : c.toNat ≠ n.toNat := fun e => h (UInt8.toNat_inj.1 e)
  simp; omega
/-- what unquoted answers -/
def UqPost (l : List UInt8) (w : World) (e : Ending) (w' : World) : Prop :=
  ∃ S : ByteArray, e = .returned (.agg #[.int .i64 2, .int .i64 0, .string S, .bool false]) ∧ Below w.heap.size w w' ∧ ∀ m, l = quoteL m → m = S.data.toList
set_option maxRecDepth 100000 in
theorem unquoted_r (t : ByteArray) (ht : t.size ≤ 1026) (w : World) : Calls Tryz.prog 58 #[.string t] w (UqPost t.data.toList w) := by
  obtain ⟨i0, hi, hz0, hz1, hz2⟩ := info_parts infoByte
  have hlen : t.data.toList.length = t.size := by simp
  have HL := Lib.hid hlen
  clear hlen
  go_enter Tryz.func58, Tryz.ntmps58
  go_wp2
  go_loopw [3, 4] (fun v i wr => ∃ k : Nat, i = .int .i64 k ∧ UqRel t w v k wr) (fun _ i _ => t.size - (intOf i).toNat)
  case atStart => exact ⟨1, rfl, [], by omega, by omega, by simp, by simpa [Lib.byteCells] using World.ownsRow_nil _ _ _ _, Below.refl _ _, urel_start _⟩
  case round =>
    obtain ⟨k, rfl, out, hk1, hk2, hol, hown, hnx, hu⟩ := hrel
    have HU := Lib.hid hu
    clear hu
    have hwz := hnx.size
    have hsz : w.heap.size + 1 ≤ wr.heap.size := by simpa using hwz
    have hm1 : out.length + 1 ≤ maxLen := by unfold maxLen; omega
    by_cases hlt : k + 1 < t.size
    · have hk : k < t.size := by omega
      have HC := Lib.hid (uq_at hk)
      have HI : Hid (k + 1 < t.data.toList.length) := by show _ < _; rw [HL.out]; exact hlt
      by_cases h92 : t[k] = 92
      · have b0 : ((t[k].toNat : Int) != 92) = false := by rw [h92]; rfl
        have HC' : Hid (t.data.toList[k]? = some 92) := by show _ = _; rw [HC.out, h92]
        by_cases hend : t.size ≤ k + 2
        · have d0 : decide ((t.size : Int) - 1 ≤ (k : Int) + 1) = true := by simp; omega
          have HN : Hid (URel t.data.toList (out ++ [t[k]]) (k + 1)) := urel_end HU.out HI.out HC'.out (by rw [HL.out]; exact hend)
          clear h92
          go_wp2_with (at_builtin; refine wpList_append_own _ rfl _ _ 87 rfl (w.heap.size + 1) 5 i0 (.int .u8 0) 1 1 Tryz.underlying87 hi hz0 hz1 hz2 rfl (by decide) _ _ _ rfl (hown.alloc _) ⟨wr.heap.size, 0, none⟩ 1 1 (u8s [(t[k].toNat : Int)]) rfl rfl (lit_cells _ _ _) (u8s_one _) hm1 (by omega) (by simp; omega) ?_; intro v2 w2 hown2 hgrow2 _; refine Hid.out ?_)
          refine Lib.hid ?_
          have hnx2 : Below (w.heap.size + 1) (w.alloc Zero29) w2 := (hnx.alloc hsz _).grown hgrow2 (by simp; omega) (fun k hk => (hown.lt k hk).1)
          go_wp2
          go_roundw
          case rel => exact ⟨k + 1, by go_num, out ++ [t[k]], by omega, by omega, by simp; omega, by simpa [Lib.byteCells, u8s] using hown2, hnx2, HN.out⟩
          case measure => simp [intOf]; omega
        · have d0 : decide ((t.size : Int) - 1 ≤ (k : Int) + 1) = false := by simp; omega
          have hk' : k + 1 < t.size := by omega
          have HD := Lib.hid (uq_at hk')
          clear h92
          have g0 : (0 : Int) ≤ (k : Int) + 1 := by omega
          have g1 : (k : Int) + 1 < (t.size : Int) := by omega
          by_cases c1 : t[k + 1] = 110
          · have b1 : ((t[k + 1].toNat : Int) == 110) = true := by rw [c1]; rfl
            have HN : Hid (URel t.data.toList (out ++ [10]) (k + 2)) := urel_two HU.out HI.out HC'.out (HD.out.trans (by rw [c1])) (.inl ⟨rfl, rfl⟩)
            clear c1
            go_wp2_with (at_builtin; refine wpList_append_own _ rfl _ _ 87 rfl (w.heap.size + 1) 5 i0 (.int .u8 0) 1 1 Tryz.underlying87 hi hz0 hz1 hz2 rfl (by decide) _ _ _ rfl (hown.alloc _) ⟨wr.heap.size, 0, none⟩ 1 1 (u8s [10]) rfl rfl (lit_cells _ _ _) (u8s_one _) hm1 (by omega) (by simp; omega) ?_; intro v2 w2 hown2 hgrow2 _; refine Hid.out ?_)
            refine Lib.hid ?_
            have hnx2 : Below (w.heap.size + 1) (w.alloc Zero29) w2 := (hnx.alloc hsz _).grown hgrow2 (by simp; omega) (fun k hk => (hown.lt k hk).1)
            go_wp2
            go_roundw
            case rel => exact ⟨k + 2, by go_num, out ++ [10], by omega, by omega, by simp; omega, by simpa [Lib.byteCells, u8s] using hown2, hnx2, HN.out⟩
            case measure => simp [intOf]; omega
          · have b1 : ((t[k + 1].toNat : Int) == 110) = false := byte_ne (n := 110) c1
            by_cases c2 : t[k + 1] = 116
            · have b2 : ((t[k + 1].toNat : Int) == 116) = true := by rw [c2]; rfl
              have HN : Hid (URel t.data.toList (out ++ [9]) (k + 2)) := urel_two HU.out HI.out HC'.out (HD.out.trans (by rw [c2])) (.inr (.inl ⟨rfl, rfl⟩))
              clear c1 c2
              go_wp2_with (at_builtin; refine wpList_append_own _ rfl _ _ 87 rfl (w.heap.size + 1) 5 i0 (.int .u8 0) 1 1 Tryz.underlying87 hi hz0 hz1 hz2 rfl (by decide) _ _ _ rfl (hown.alloc _) ⟨wr.heap.size, 0, none⟩ 1 1 (u8s [9]) rfl rfl (lit_cells _ _ _) (u8s_one _) hm1 (by omega) (by simp; omega) ?_; intro v2 w2 hown2 hgrow2 _; refine Hid.out ?_)
              refine Lib.hid ?_
              have hnx2 : Below (w.heap.size + 1) (w.alloc Zero29) w2 := (hnx.alloc hsz _).grown hgrow2 (by simp; omega) (fun k hk => (hown.lt k hk).1)
              go_wp2
              go_roundw
              case rel => exact ⟨k + 2, by go_num, out ++ [9], by omega, by omega, by simp; omega, by simpa [Lib.byteCells, u8s] using hown2, hnx2, HN.out⟩
              case measure => simp [intOf]; omega
            · have b2 : ((t[k + 1].toNat : Int) == 116) = false := byte_ne (n := 116) c2
              by_cases c3 : t[k + 1] = 120
              · have b3 : ((t[k + 1].toNat : Int) == 120) = true := by rw [c3]; rfl
                by_cases hx : k + 3 < t.size
                · have hx2 : k + 2 < t.size := by omega
                  have HX := Lib.hid (uq_at hx2)
                  have HY := Lib.hid (uq_at hx)
                  have HN : Hid (∀ r : UInt8, r.toNat = nib t[k + 2].toNat * 16 + nib t[k + 3].toNat → URel t.data.toList (out ++ [r]) (k + 4)) := fun r hr => urel_four HU.out HI.out HC'.out (HD.out.trans (by rw [c3])) HX.out HY.out hr
                  clear c1 c2 c3
                  have d3 : decide ((k : Int) + 3 < (t.size : Int)) = true := by simp; omega
                  have l1 := nib_lt t[k + 2].toNat
                  have l2 := nib_lt t[k + 3].toNat
                  have j1 : t[k + 2].toNat < 256 := t[k + 2].toNat_lt
                  have j2 : t[k + 3].toNat < 256 := t[k + 3].toNat_lt
                  have w1 : IntKind.i64.wrap ((k : Int) + 1 + 1) = (k : Int) + 2 := (IntWalk.i64_in _ (by omega)).trans (by omega)
                  have w2 : IntKind.i64.wrap ((k : Int) + 1 + 2) = (k : Int) + 3 := (IntWalk.i64_in _ (by omega)).trans (by omega)
                  have v1 : (0 : Int) ≤ (k : Int) + 2 := by omega
                  have v2 : (k : Int) + 2 < (t.size : Int) := by omega
                  have v3 : (0 : Int) ≤ (k : Int) + 3 := by omega
                  have v4 : (k : Int) + 3 < (t.size : Int) := by omega
                  have v5 : ((k : Int) + 2).toNat = k + 2 := by omega
                  have v6 : ((k : Int) + 3).toNat = k + 3 := by omega
                  have w3 : IntKind.i64.wrap ((nib t[k + 2].toNat : Int) * 16) = (nib t[k + 2].toNat : Int) * 16 := IntWalk.i64_in _ (by omega)
                  have w4 : IntKind.i64.wrap ((nib t[k + 2].toNat : Int) * 16 + (nib t[k + 3].toNat : Int)) = (nib t[k + 2].toNat : Int) * 16 + (nib t[k + 3].toNat : Int) := IntWalk.i64_in _ (by omega)
                  obtain ⟨r, hr⟩ : ∃ r : UInt8, r.toNat = nib t[k + 2].toNat * 16 + nib t[k + 3].toNat := ⟨UInt8.ofNat (nib t[k + 2].toNat * 16 + nib t[k + 3].toNat), by rw [UInt8.toNat_ofNat']; omega⟩
                  have HN' := Lib.hid (HN.out r hr)
                  have HR5 : Hid (IntKind.u8.wrap ((nib t[k + 2].toNat : Int) * 16 + (nib t[k + 3].toNat : Int)) = (r.toNat : Int)) := (IntWalk.u8_in _ (by omega)).trans (by omega)
                  clear hr
                  have hB1 : ∀ o : Obj, w.heap.size + 1 ≤ (wr.alloc o).drew.heap.size := by intro o; simp; omega
                  have hm2 : (out.length + 1) * 1 ≤ 140737488355328 := by omega
                  clear HC HC' HD HX HY HU HI
                  go_wp2_with fail
                  go_region_law (first | (go_simp; go_at_call 75; refine (nibble_r _ (by assumption) _).mono ?_; rintro e w' ⟨rfl, hw⟩; obtain rfl := hw.symm) | (refine step_append_lies _ rfl _ _ 87 rfl (w.heap.size + 1) 5 i0 (.int .u8 0) 1 1 Tryz.underlying87 hi hz0 hz1 hz2 rfl (by decide) u3 out.length (Lib.byteCells out) rfl (hown.alloc _).drew ⟨wr.heap.size, 0, none⟩ 1 1 (u8s [IntKind.u8.wrap ((nib t[k + 2].toNat : Int) * 16 + (nib t[k + 3].toNat : Int))]) rfl rfl (fun j u h => lit_cells wr _ _ j u h) (u8s_one _) (by decide) hm1 hm2 (hB1 _) (wr.heap.size + 1) (by simp) ?_; intro g cap w2 hown2 hgrow2 _ _))
                  all_goals
                    have hnx2 : Below (w.heap.size + 1) (w.alloc Zero29) w2 := ((hnx.alloc hsz _).drew).grown hgrow2 (hB1 _) (fun k hk => (hown.lt k hk).1)
                    rw [HR5.out] at hown2
                    go_wp2
                    go_roundw
                    case rel => exact ⟨k + 4, by go_num, out ++ [r], by omega, by omega, by simp; omega, by simpa [Lib.byteCells, u8s] using hown2, hnx2, HN'.out⟩
                    case measure => simp [intOf]; omega
                · have d3 : decide ((k : Int) + 3 < (t.size : Int)) = false := by simp; omega
                  have HN : Hid (URel t.data.toList (out ++ [t[k + 1]]) (k + 2)) := urel_short HU.out HI.out HC'.out (HD.out.trans (by rw [c3])) (by rw [HL.out]; omega)
                  clear c1 c2 c3
                  go_wp2_with (at_builtin; refine wpList_append_own _ rfl _ _ 87 rfl (w.heap.size + 1) 5 i0 (.int .u8 0) 1 1 Tryz.underlying87 hi hz0 hz1 hz2 rfl (by decide) _ _ _ rfl (hown.alloc _) ⟨wr.heap.size, 0, none⟩ 1 1 (u8s [(t[k + 1].toNat : Int)]) rfl rfl (lit_cells _ _ _) (u8s_one _) hm1 (by omega) (by simp; omega) ?_; intro v2 w2 hown2 hgrow2 _; refine Hid.out ?_)
                  refine Lib.hid ?_
                  have hnx2 : Below (w.heap.size + 1) (w.alloc Zero29) w2 := (hnx.alloc hsz _).grown hgrow2 (by simp; omega) (fun k hk => (hown.lt k hk).1)
                  go_wp2
                  go_roundw
                  case rel => exact ⟨k + 2, by go_num, out ++ [t[k + 1]], by omega, by omega, by simp; omega, by simpa [Lib.byteCells, u8s] using hown2, hnx2, HN.out⟩
                  case measure => simp [intOf]; omega
              · have b3 : ((t[k + 1].toNat : Int) == 120) = false := byte_ne (n := 120) c3
                have HN : Hid (URel t.data.toList (out ++ [t[k + 1]]) (k + 2)) := urel_two HU.out HI.out HC'.out HD.out (.inr (.inr ⟨c1, c2, c3, rfl⟩))
                clear c1 c2 c3
                go_wp2_with (at_builtin; refine wpList_append_own _ rfl _ _ 87 rfl (w.heap.size + 1) 5 i0 (.int .u8 0) 1 1 Tryz.underlying87 hi hz0 hz1 hz2 rfl (by decide) _ _ _ rfl (hown.alloc _) ⟨wr.heap.size, 0, none⟩ 1 1 (u8s [(t[k + 1].toNat : Int)]) rfl rfl (lit_cells _ _ _) (u8s_one _) hm1 (by omega) (by simp; omega) ?_; intro v2 w2 hown2 hgrow2 _; refine Hid.out ?_)
                refine Lib.hid ?_
                have hnx2 : Below (w.heap.size + 1) (w.alloc Zero29) w2 := (hnx.alloc hsz _).grown hgrow2 (by simp; omega) (fun k hk => (hown.lt k hk).1)
                go_wp2
                go_roundw
                case rel => exact ⟨k + 2, by go_num, out ++ [t[k + 1]], by omega, by omega, by simp; omega, by simpa [Lib.byteCells, u8s] using hown2, hnx2, HN.out⟩
                case measure => simp [intOf]; omega
      · have b0 : ((t[k].toNat : Int) != 92) = true := by have := byte_ne (n := 92) h92; simpa using this
        have HN : Hid (URel t.data.toList (out ++ [t[k]]) (k + 1)) := urel_plain HU.out HI.out HC.out h92
        clear h92
        go_wp2_with (at_builtin; refine wpList_append_own _ rfl _ _ 87 rfl (w.heap.size + 1) 5 i0 (.int .u8 0) 1 1 Tryz.underlying87 hi hz0 hz1 hz2 rfl (by decide) _ _ _ rfl (hown.alloc _) ⟨wr.heap.size, 0, none⟩ 1 1 (u8s [(t[k].toNat : Int)]) rfl rfl (lit_cells _ _ _) (u8s_one _) hm1 (by omega) (by simp; omega) ?_; intro v2 w2 hown2 hgrow2 _; refine Hid.out ?_)
        refine Lib.hid ?_
        have hnx2 : Below (w.heap.size + 1) (w.alloc Zero29) w2 := (hnx.alloc hsz _).grown hgrow2 (by simp; omega) (fun k hk => (hown.lt k hk).1)
        go_wp2
        go_roundw
        case rel => exact ⟨k + 1, by go_num, out ++ [t[k]], by omega, by omega, by simp; omega, by simpa [Lib.byteCells, u8s] using hown2, hnx2, HN.out⟩
        case measure => simp [intOf]; omega
    · have HE : Hid (∀ m, t.data.toList = quoteL m → m = out) := fun m hm => urel_done HU.out (by rw [HL.out]; omega) m hm
      have hcell : ∀ o, wr.cell? ⟨w.heap.size, o, none⟩ = (w.alloc (Obj.cells #[.int .i64 0, .int .i64 0, .string ⟨#[]⟩, .bool false] 57)).cell? ⟨w.heap.size, o, none⟩ := fun o => (bcell4 hnx).1 _ o (by omega)
      have hfro : ∀ o, wr.frozen? ⟨w.heap.size, o, none⟩ = (w.alloc (Obj.cells #[.int .i64 0, .int .i64 0, .string ⟨#[]⟩, .bool false] 57)).frozen? ⟨w.heap.size, o, none⟩ := fun o => (bcell4 hnx).2 _ o (by omega)
      have HB : Hid (Below w.heap.size w wr) := ((Below.refl _ _).alloc (Nat.le_refl _) Zero29).trans (hnx.mono (by omega))
      have HKT : Hid (t.size ≤ k + 1) := by show _ ≤ _; omega
      rcases hown.2 with ⟨rfl, h0⟩ | ⟨g, cap, cur, rfl, -, -, -, -, -, -⟩
      · have hcv := conv_nil wr
        have hb0 : out = [] := List.eq_nil_of_length_eq_zero h0
        subst hb0
        go_wp2
        refine bodyPost_ret (v := .agg #[.int .i64 2, .int .i64 0, .string ⟨#[]⟩, .bool false]) (by simp [results, Tryz.results58, go_sem, hcell, hfro]) rfl ?_
        refine ⟨⟨#[]⟩, rfl, ?_, fun m hm => HE.out m hm⟩
        repeat (first | exact HB.out | apply Below.drew | refine Below.setCell ?_ (by show w.heap.size ≤ w.heap.size; omega) _)
      · have hcv := run_convert_bytes_back (P := Tryz.prog) wr 87 9 5 ⟨g, 0, none⟩ cap out Tryz.underlying87 Tryz.underlying5 Tryz.underlying9 (fun j hj => hown.cells (g := g) rfl j _ (by simp [Lib.byteCells, hj]))
        go_wp2
        refine bodyPost_ret (v := .agg #[.int .i64 2, .int .i64 0, .string ⟨out.toArray⟩, .bool false]) (by simp [results, Tryz.results58, go_sem, hcell, hfro]) rfl ?_
        refine ⟨⟨out.toArray⟩, rfl, ?_, fun m hm => HE.out m hm⟩
        repeat (first | exact HB.out | apply Below.drew | refine Below.setCell ?_ (by show w.heap.size ≤ w.heap.size; omega) _)
end Go.Proofs.YtkficmbkoinjjaaGreatDoor.V
