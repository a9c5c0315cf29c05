/- The laws' own functions: tick, begun. -/
import Derived.Test.YtlinpkmfjkcoiaaDoorF1
namespace Go.Proofs.YtlinpkmfjkcoiaaDoor
open Go Go.RowKit
set_option maxHeartbeats 4000000
set_option linter.unusedVariables false
set_option linter.unusedSimpArgs false
def tickV : List V4 := [⟨1, 12, ⟨#[]⟩, false⟩, ⟨2, 0, ⟨#[97, 98]⟩, false⟩, ⟨3, 0, ⟨#[]⟩, true⟩]
def tickE : Evt := ⟨⟨#[84, 105, 99, 107]⟩, 5, tickV⟩
def tickB : List UInt8 := [8, 84, 105, 99, 107, 10, 6, 1, 24, 2, 4, 97, 98, 3, 1]
theorem tick_ty : (⟨#[84, 105, 99, 107]⟩ : ByteArray).toList = [84, 105, 99, 107] := toList_mk [84, 105, 99, 107]
theorem tick_ab : (⟨#[97, 98]⟩ : ByteArray).toList = [97, 98] := toList_mk [97, 98]
theorem tick_w : evtW tickE = tickB := by
  simp [evtW, tickE, tickV, tickB, textW, valsW, valW, put, zig, grp_small, tick_ty, tick_ab]
theorem tick_name : nameL [84, 105, 99, 107] = true := by decide
theorem tick_ok : OkE tickE := by
  refine ⟨by show nameL (⟨#[84, 105, 99, 107]⟩ : ByteArray).toList = true; rw [tick_ty]; exact tick_name, by decide, by decide, ?_⟩
  intro v hv
  simp only [tickE, tickV, List.mem_cons, List.not_mem_nil, or_false] at hv
  rcases hv with rfl | rfl | rfl
  · exact ⟨ok_int 12, by simp [In4, I64]⟩
  · exact ⟨ok_str (by decide), by simp [In4, I64]⟩
  · exact ⟨ok_bool true, by simp [In4, I64]⟩
def Ticked (w : World) (e : Ending) (w' : World) : Prop := ∃ (p q : Option Addr) (c d : Nat), e = .returned (.tuple #[.agg #[.string ⟨#[84, 105, 99, 107]⟩, .int .i64 5, .slice p 3 c], .slice q 15 d]) ∧ ValRow w' p tickV ∧ In w' q tickB ∧ 15 ≤ d ∧ d ≤ maxLen ∧ Below w.heap.size w w'
set_option maxRecDepth 100000 in
theorem tick_any (w : World) : Calls Tryd.prog 44 #[] w (Ticked w) := by
  go_enter Tryd.func44, Tryd.ntmps44
  go_wp2
  refine bodyPost_ret (v := .tuple #[.agg #[.string ⟨#[84, 105, 99, 107]⟩, .int .i64 5, .slice (some ⟨w.heap.size + 1, 0, none⟩) 3 3], .slice (some ⟨w.heap.size + 1 + 1 + 1, 0, none⟩) 15 15]) (by simp [results, Tryd.results44, go_sem]) rfl ?_
  refine ⟨some ⟨w.heap.size + 1, 0, none⟩, some ⟨w.heap.size + 1 + 1 + 1, 0, none⟩, 3, 15, rfl, ?_, ?_, by omega, by unfold maxLen; omega, ?_⟩
  · intro i hi
    have h3 : i = 0 ∨ i = 1 ∨ i = 2 := by simp [tickV] at hi; omega
    rcases h3 with rfl | rfl | rfl
    · exact ⟨_, 0, rfl, by simp [go_sem, tickV], by simp [go_sem, tickV], by simp [go_sem, tickV], by simp [go_sem, tickV]⟩
    · exact ⟨_, 0, rfl, by simp [go_sem, tickV], by simp [go_sem, tickV], by simp [go_sem, tickV], by simp [go_sem, tickV]⟩
    · exact ⟨_, 0, rfl, by simp [go_sem, tickV], by simp [go_sem, tickV], by simp [go_sem, tickV], by simp [go_sem, tickV]⟩
  · intro i hi
    refine ⟨_, 0, rfl, ?_⟩
    have h15 : i < 15 := by simpa [tickB] using hi
    have hc : ∀ i : Fin 15, (#[Value.int .u8 8, .int .u8 84, .int .u8 105, .int .u8 99, .int .u8 107, .int .u8 10, .int .u8 6, .int .u8 1, .int .u8 24, .int .u8 2, .int .u8 4, .int .u8 97, .int .u8 98, .int .u8 3, .int .u8 1])[i.val]? = some (.int .u8 ((tickB[i.val]'i.isLt).toNat : Int)) := by
      intro i
      match i with
      | ⟨0, _⟩ => rfl
      | ⟨1, _⟩ => rfl
      | ⟨2, _⟩ => rfl
      | ⟨3, _⟩ => rfl
      | ⟨4, _⟩ => rfl
      | ⟨5, _⟩ => rfl
      | ⟨6, _⟩ => rfl
      | ⟨7, _⟩ => rfl
      | ⟨8, _⟩ => rfl
      | ⟨9, _⟩ => rfl
      | ⟨10, _⟩ => rfl
      | ⟨11, _⟩ => rfl
      | ⟨12, _⟩ => rfl
      | ⟨13, _⟩ => rfl
      | ⟨14, _⟩ => rfl
      | ⟨n + 15, h⟩ => omega
    have := hc ⟨i, h15⟩
    simp only at this
    refine Eq.trans ?_ this
    simp [go_sem]
  · repeat (first | exact Below.refl _ _ | apply Below.drew | refine Below.setCell ?_ (by simp <;> omega) _ | refine Below.alloc ?_ (by first | exact Nat.le_refl _ | (simp; done) | (simp; omega) | (simp [World.setCell]; omega)) _)
end Go.Proofs.YtlinpkmfjkcoiaaDoor
