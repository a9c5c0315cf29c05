/- Contract of package schema's clone: attributes of its own. -/
import Derived.Test.YtpfpganlghjhjaaDoorA5
import Derived.OwnWalk
import Derived.Laws.OwnMore
import Derived.Deep.AppendLies
import Derived.Deep.RegionLaw
namespace Go.Proofs.YtpfpganlghjhjaaDoor
open Go Go.RowKit
set_option maxHeartbeats 2000000
set_option linter.unusedVariables false
set_option linter.unusedSimpArgs false
def cellsL (l : List (ByteArray × Int)) : List Value := l.flatMap fun a => [.string a.1, .int .i64 a.2]
theorem cellsL_cons (a : ByteArray × Int) (l : List (ByteArray × Int)) : cellsL (a :: l) = .string a.1 :: .int .i64 a.2 :: cellsL l := rfl
theorem cellsL_len (l : List (ByteArray × Int)) : (cellsL l).length = l.length * 2 := by
  induction l with
  | nil => rfl
  | cons a l ih => rw [cellsL_cons, List.length_cons, List.length_cons, ih, List.length_cons]; omega
theorem cellsL_one (l : List (ByteArray × Int)) : ∀ u ∈ cellsL l, u.oneCell' = true := by
  intro u hu
  unfold cellsL at hu
  rw [List.mem_flatMap] at hu
  obtain ⟨a, _, h⟩ := hu
  simp only [List.mem_cons, List.not_mem_nil, or_false] at h
  rcases h with rfl | rfl <;> rfl
theorem cellsL_name : ∀ (l : List (ByteArray × Int)) (i : Nat) (h : i < l.length), (cellsL l)[i * 2]? = some (.string l[i].1) ∧ (cellsL l)[i * 2 + 1]? = some (.int .i64 l[i].2)
  | a :: l, 0, h => ⟨rfl, rfl⟩
  | a :: l, i + 1, h => by
    have := cellsL_name l i (by simpa using h)
    rw [cellsL_cons, show (i + 1) * 2 = i * 2 + 1 + 1 by omega, List.getElem?_cons_succ, List.getElem?_cons_succ, List.getElem?_cons_succ, List.getElem?_cons_succ]
    exact this
theorem row_news {w : World} {b o : Nat} {l : List (ByteArray × Int)} (h : AtRow w (some ⟨b, o, none⟩) l) : ∀ j u, (cellsL l)[j]? = some u → w.cell? ((⟨b, o, none⟩ : Addr).add j) = some u := by
  intro j u hu
  have hj : j < l.length * 2 := by
    have := (List.getElem?_eq_some_iff.1 hu).1
    rwa [cellsL_len] at this
  obtain ⟨i, hi⟩ : ∃ i, j = i * 2 ∨ j = i * 2 + 1 := ⟨j / 2, by omega⟩
  have hil : i < l.length := by omega
  obtain ⟨h1, h2⟩ := cellsL_name l i hil
  obtain ⟨b', o', e, c1, c2⟩ := h i hil
  simp only [Option.some.injEq, Addr.mk.injEq, and_true] at e
  obtain ⟨rfl, rfl⟩ := e
  rw [Addr.add_lit]
  rcases hi with rfl | rfl
  · rw [h1] at hu
    exact c1.trans hu
  · rw [h2] at hu
    rw [← Nat.add_assoc]
    exact c2.trans hu
theorem infoAttr : (Tryd.prog.info? 38).map (fun i => (i.zero, i.size, i.bytes)) = some (some (.agg #[.string ⟨#[]⟩, .int .i64 0]), 2, 24) := by kernel_rfl
theorem clone_nil (name : ByteArray) (w : World) : Calls Tryd.prog 20 #[.agg #[.string name, .slice none 0 0]] w fun e w' => e = .returned (.agg #[.string name, .slice none 0 0]) ∧ Below w.heap.size w w' := by
  go_enter Tryd.func20, Tryd.ntmps20
  go_wp2_with fail
  go_region
  all_goals
    go_wp2
    refine bodyPost_ret (v := .agg #[.string name, .slice none 0 0]) (by simp [results, Tryd.results20, go_sem]) rfl ?_
    refine ⟨rfl, ?_⟩
    repeat (first | exact Below.refl _ _ | apply Below.drew | refine Below.setCell ?_ (by first | exact Nat.le_refl _ | (simp; done) | (simp; omega)) _ | refine Below.alloc ?_ (by first | omega | (simp [World.setCell]; done) | (simp [World.setCell]; omega)) _)
set_option maxRecDepth 100000 in
theorem clone_row (name : ByteArray) (l : List (ByteArray × Int)) (b o c : Nat) (h0 : 0 < l.length) (h16 : l.length ≤ 16) (w : World) (hr : AtRow w (some ⟨b, o, none⟩) l) :
    Calls Tryd.prog 20 #[.agg #[.string name, .slice (some ⟨b, o, none⟩) l.length c]] w fun e w' => ∃ g cap, e = .returned (.agg #[.string name, .slice (some ⟨g, 0, none⟩) l.length cap]) ∧ Below w.heap.size w w' ∧ AtRow w' (some ⟨g, 0, none⟩) l ∧ l.length ≤ cap ∧ cap ≤ maxLen := by
  obtain ⟨i0, hi, hz0, hz1, hz2⟩ := info_parts infoAttr
  have hm : 0 + l.length ≤ maxLen := by unfold maxLen; omega
  have hm2 : (0 + l.length) * 24 ≤ 140737488355328 := by omega
  have hcl : (cellsL l).length = l.length * 2 := cellsL_len l
  have HR2 : ∀ o1 o2, AtRow (((w.alloc o1).alloc o2).drew) (some ⟨b, o, none⟩) l := fun o1 o2 => hr.below ((((Below.refl _ _).alloc (Nat.le_refl _) _).alloc (by simp) _).drew)
  obtain ⟨n, hn⟩ : ∃ n, n = l.length := ⟨_, rfl⟩
  rw [← hn] at h0 h16 hm hm2 hcl ⊢
  have HN := Lib.hid hn
  have HR := Lib.hid HR2
  clear hn hr HR2
  go_enter Tryd.func20, Tryd.ntmps20
  go_wp2_with fail
  go_region_law (first | (refine step_append_lies _ rfl _ _ 25 rfl w.heap.size 38 i0 (.agg #[.string ⟨#[]⟩, .int .i64 0]) 2 24 Tryd.underlying25 hi hz0 hz1 hz2 rfl (by decide) (.slice none 0 0) 0 [] rfl (World.ownsRow_nil _ _ _ _) ⟨b, o, none⟩ n c (cellsL l) rfl hcl (row_news (HR.out _ _)) (cellsL_one l) h0 hm hm2 (by simp; omega) (w.heap.size + 1 + 1) (by simp) ?_; intro g cap w2 hown2 hgrow2 hwhere2 hlt2; have hbx := (Below.refl _ _).grown hgrow2 (Nat.le_refl _) (fun k hk => by cases hk); obtain ⟨hc2, hf2⟩ := bcell hbx))
  all_goals
    go_wp2
    have hg : g = w.heap.size + 1 + 1 := hwhere2.resolve_left (by simp [Value.ownBlock])
    have hcap : n ≤ cap ∧ cap ≤ maxLen := by
      rcases hown2.2 with ⟨h1, _⟩ | ⟨g', cap', cur, h1, _, _, h2, h3, _⟩
      · cases h1
      · simp only [Value.slice.injEq] at h1
        obtain ⟨_, _, rfl⟩ := h1
        exact ⟨by omega, h3⟩
    have hBW : Below w.heap.size w w2 := ((((Below.refl _ _).alloc (Nat.le_refl _) _).alloc (by simp) _).drew).trans (hbx.mono (by simp; omega))
    have hs2 := hbx.size
    simp at hs2
    refine bodyPost_ret (v := .agg #[.string name, .slice (some ⟨g, 0, none⟩) n cap]) (by simp [results, Tryd.results20, go_sem, hc2]) rfl ?_
    refine ⟨g, cap, rfl, ?_, ?_, hcap.1, hcap.2⟩
    · repeat (first | exact hBW | apply Below.drew | refine Below.setCell ?_ (by simp) _)
    · have hrow := fun j u h => hown2.cells (g := g) rfl j u h
      simp only [List.nil_append] at hrow
      intro i hi
      obtain ⟨h1, h2⟩ := cellsL_name l i hi
      have k1 := hrow _ _ h1
      have k2 := hrow _ _ h2
      rw [Addr.add_lit] at k1 k2
      refine ⟨g, 0, rfl, ?_, ?_⟩
      · rw [World.cell?_setCell_far _ _ _ _ (by show w.heap.size + 1 ≠ g; omega), World.cell?_setCell_far _ _ _ _ (by show w.heap.size + 1 ≠ g; omega)]
        exact k1
      · rw [World.cell?_setCell_far _ _ _ _ (by show w.heap.size + 1 ≠ g; omega), World.cell?_setCell_far _ _ _ _ (by show w.heap.size + 1 ≠ g; omega), Nat.add_assoc]
        exact k2
end Go.Proofs.YtpfpganlghjhjaaDoor
