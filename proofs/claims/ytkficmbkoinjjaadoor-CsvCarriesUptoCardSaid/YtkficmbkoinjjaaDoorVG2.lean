/- Contract of value.guess. -/
import Derived.Test.YtkficmbkoinjjaaDoorVG1
import Derived.WalkKit
import Derived.WalkSpells
import Derived.WalkLawsBesides
import Derived.Lib.Hide
import Derived.Deep.RegionWith
namespace Go.Proofs.YtkficmbkoinjjaaDoor.V
open Go Go.RowKit
set_option maxHeartbeats 400000
set_option linter.unusedVariables false
set_option linter.unusedSimpArgs false
def GPost (l : List UInt8) (w : World) (e : Ending) (w' : World) : Prop :=
  ∃ (K N : Int) (S : ByteArray) (T ok : Bool), e = .returned (.tuple #[.agg #[.int .i64 K, .int .i64 N, .string S, .bool T], .bool ok]) ∧ Below w.heap.size w w' ∧ (ok = true → I64 N) ∧
    ∀ k n s b, I64 n → valid k n s b = true → l = showT k n s b → ok = true ∧ K = k ∧ N = n ∧ S = s ∧ T = b
theorem i64_zero : I64 0 := by unfold I64; omega
theorem zero_post (l : List UInt8) (w w' : World) (hb : Below w.heap.size w w') (h : ∀ k n s b, I64 n → valid k n s b = true → l ≠ showT k n s b) :
    GPost l w (.returned (.tuple #[.agg #[.int .i64 0, .int .i64 0, .string ⟨#[]⟩, .bool false], .bool false])) w' :=
  ⟨0, 0, ⟨#[]⟩, false, false, rfl, hb, fun _ => i64_zero, fun k n s b hn hv he => absurd he (h k n s b hn hv)⟩
theorem guess_empty (w : World) : Calls Tryd.prog 62 #[.string ⟨#[]⟩] w (GPost [] w) := by
  go_enter Tryd.func62, Tryd.ntmps62
  go_wp2
  refine bodyPost_ret (v := .tuple #[.agg #[.int .i64 0, .int .i64 0, .string ⟨#[]⟩, .bool false], .bool false]) (by simp [results, Tryd.results62, go_sem]) rfl ?_
  refine zero_post _ _ _ ((Below.refl _ _).alloc (Nat.le_refl _) _) fun k n s b hn hv he => ?_
  have := (showT_len hv hn).1
  rw [← he] at this
  simp at this
theorem ne_nil {t : ByteArray} (h : 0 < t.size) : (t.toList == []) = false := by
  cases hc : t.toList == []
  · rfl
  · have := beq_iff_eq.1 hc
    rw [ByteArray.toList_eq] at this
    have h2 : t.data.toList.length = t.size := by simp
    rw [this] at h2
    simp at h2
    omega
theorem guess_long (t : ByteArray) (h : 1026 < t.size) (w : World) : Calls Tryd.prog 62 #[.string t] w (GPost t.data.toList w) := by
  have hne := ne_nil (t := t) (by omega)
  go_enter Tryd.func62, Tryd.ntmps62
  go_wp2
  refine bodyPost_ret (v := .tuple #[.agg #[.int .i64 0, .int .i64 0, .string ⟨#[]⟩, .bool false], .bool false]) (by simp [results, Tryd.results62, go_sem]) rfl ?_
  refine zero_post _ _ _ ((Below.refl _ _).alloc (Nat.le_refl _) _) fun k n s b hn hv he => ?_
  have h1 := (showT_len hv hn).2
  have h2 : t.data.toList.length = t.size := by simp
  rw [← he] at h1
  omega
theorem valid_mk1 (n : Int) : valid 1 n ⟨#[]⟩ false = true := by unfold valid; rw [if_pos rfl]; exact veq_self _ _ _ _
theorem valid_mk2 (s : ByteArray) (h : s.size ≤ 256) : valid 2 0 s false = true := by
  unfold valid
  rw [if_neg (by omega), if_pos rfl, veq_self]
  simp
  omega
theorem valid_mk3 (b : Bool) : valid 3 0 ⟨#[]⟩ b = true := by
  unfold valid
  rw [if_neg (by omega), if_neg (by omega), if_pos rfl]
  exact veq_self _ _ _ _
theorem guess_true (w : World) : Calls Tryd.prog 62 #[.string ⟨#[84, 82, 85, 69]⟩] w (GPost [84, 82, 85, 69] w) := by
  go_enter Tryd.func62, Tryd.ntmps62
  go_wp2_with (go_at_call 29; refine (truth_any _ _).mono ?_; rintro e w' ⟨rfl, rfl⟩)
  refine bodyPost_ret (v := .tuple #[.agg #[.int .i64 3, .int .i64 0, .string ⟨#[]⟩, .bool true], .bool true]) (by simp [results, Tryd.results62, go_sem]) rfl ?_
  refine ⟨3, 0, ⟨#[]⟩, true, true, rfl, ?_, fun _ => i64_zero, fun k n s b hn hv he => ?_⟩
  · repeat (first | exact Below.refl _ _ | apply Below.drew | refine Below.alloc ?_ (by first | omega | (simp; done) | (simp; omega)) _)
  · have hv3 := valid_mk3 true
    have := showT_inj hv3 hv i64_zero hn (by rw [← he, showT_3 hv3]; rfl)
    exact ⟨rfl, this⟩
theorem guess_false (w : World) : Calls Tryd.prog 62 #[.string ⟨#[70, 65, 76, 83, 69]⟩] w (GPost [70, 65, 76, 83, 69] w) := by
  go_enter Tryd.func62, Tryd.ntmps62
  go_wp2_with (go_at_call 29; refine (truth_any _ _).mono ?_; rintro e w' ⟨rfl, rfl⟩)
  refine bodyPost_ret (v := .tuple #[.agg #[.int .i64 3, .int .i64 0, .string ⟨#[]⟩, .bool false], .bool true]) (by simp [results, Tryd.results62, go_sem]) rfl ?_
  refine ⟨3, 0, ⟨#[]⟩, false, true, rfl, ?_, fun _ => i64_zero, fun k n s b hn hv he => ?_⟩
  · repeat (first | exact Below.refl _ _ | apply Below.drew | refine Below.alloc ?_ (by first | omega | (simp; done) | (simp; omega)) _)
  · have hv3 := valid_mk3 false
    have := showT_inj hv3 hv i64_zero hn (by rw [← he, showT_3 hv3]; rfl)
    exact ⟨rfl, this⟩
theorem guess_text (t : ByteArray) (h : 0 < t.size) (hs : t.size ≤ 1026) (hT : (t.toList == [84, 82, 85, 69]) = false) (hF : (t.toList == [70, 65, 76, 83, 69]) = false) (b0 : ((((t[0]'h).toNat : Nat) : Int) == 34) = true) (w : World) (hv : ErrVars w) : Calls Tryd.prog 62 #[.string t] w (GPost t.data.toList w) := by
  have hne := ne_nil h
  have HV := Lib.hid hv
  clear hv
  go_enter Tryd.func62, Tryd.ntmps62
  go_wp2_with fail
  refine (unquote_any t hs _ (HV.out.below ((Below.refl _ _).alloc (Nat.le_refl _) _))).mono ?_
  rintro e w1 ⟨r, ok, rfl, hb1, hx⟩
  have HX := Lib.hid hx
  clear hx
  obtain ⟨hc1, hf1⟩ := bcell hb1
  have hz1 : w.heap.size < w1.heap.size := by have := hb1.size; simp at this; omega
  have hB1 : Below w.heap.size w w1 := ((Below.refl _ _).alloc (Nat.le_refl _) _).trans (hb1.mono (by simp))
  go_wp2_with (go_at_call 28; refine (text_any _ _).mono ?_; rintro e w' ⟨rfl, rfl⟩)
  refine bodyPost_ret (v := .tuple #[.agg #[.int .i64 2, .int .i64 0, .string ⟨r.toArray⟩, .bool false], .bool ok]) (by simp [results, Tryd.results62, go_sem, hz1, hc1]) rfl ?_
  refine ⟨2, 0, ⟨r.toArray⟩, false, ok, rfl, ?_, fun _ => i64_zero, fun k n s b hn hv he => ?_⟩
  · repeat (first | exact hB1 | apply Below.drew | refine Below.setCell ?_ (by show w.heap.size ≤ w.heap.size; omega) _ | refine Below.alloc ?_ (by first | omega | (simp [World.setCell]; done) | (simp [World.setCell]; omega)) _)
  · have e0 : t.data.toList[0]? = some (t[0]'h) := List.getElem?_eq_getElem (by simp; omega)
    have n0 : ((t[0]'h).toNat : Int) = 34 := by simpa using b0
    rcases valid_kind hv with rfl | rfl | rfl
    · rw [he, showT_1 hv] at e0
      obtain ⟨c, q, ec, hcc⟩ := itoa_head n
      rw [ec] at e0
      simp at e0
      rw [e0] at hcc
      omega
    · obtain ⟨rfl, rfl⟩ := valid_2' hv
      rw [showT_2 hv] at he
      obtain ⟨h1, h2⟩ := HX.out _ he
      exact ⟨h1, rfl, rfl, bytes_ext (by rw [h2]), rfl⟩
    · rw [he, showT_3 hv] at e0
      cases b <;> simp at e0 <;> rw [← e0] at n0 <;> simp at n0
theorem i64_of_parse {l : List UInt8} {v : Int} (h : Lib.parseIntB 64 l = .ok v) : I64 v := by
  have := Lib.parseIntB_bounds h
  have e : ((2 ^ (64 - 1) : Nat) : Int) = 9223372036854775808 := by decide
  rw [e] at this
  unfold I64
  omega
theorem num_only {t : ByteArray} (h : 0 < t.size) (hT : (t.toList == [84, 82, 85, 69]) = false) (hF : (t.toList == [70, 65, 76, 83, 69]) = false) (b0 : ((((t[0]'h).toNat : Nat) : Int) == 34) = false)
    {k n : Int} {s : ByteArray} {b : Bool} (hn : I64 n) (hv : valid k n s b = true) (he : t.data.toList = showT k n s b) : k = 1 ∧ t.data.toList = Lib.itoa n := by
  rcases valid_kind hv with rfl | rfl | rfl
  · exact ⟨rfl, by rw [he, showT_1 hv]⟩
  · have e0 : t.data.toList[0]? = some (t[0]'h) := List.getElem?_eq_getElem (by simp; omega)
    rw [he, showT_2 hv, quoteL_eq] at e0
    simp at e0
    rw [← e0] at b0
    exact absurd b0 (by decide)
  · rw [showT_3 hv] at he
    rw [ByteArray.toList_eq, he] at hT hF
    cases b
    · exact absurd hF (by decide)
    · exact absurd hT (by decide)
theorem parseInt_ok (s : ByteArray) (hs : s.size ≤ 2000) (v : Int) (h : Lib.parseIntB 64 s.data.toList = .ok v) (w : World) (hv : ErrVars w) :
    Calls Tryd.prog 76 #[.string s, .int .i64 10, .int .i64 64] w fun e w' => e = .returned (.tuple #[.int .i64 v, .nilIface]) ∧ Below w.heap.size w w' :=
  (parseInt_any s hs w hv).mono fun e w' hp => by
    rcases hp with ⟨x, hx, he, hb⟩ | ⟨x, N, hx, he, hb⟩
    · rw [h] at hx
      injection hx with hx
      subst hx
      exact ⟨he, hb⟩
    · exact absurd h (hx v)
theorem parseInt_bad (s : ByteArray) (hs : s.size ≤ 2000) (h : ∀ v, Lib.parseIntB 64 s.data.toList ≠ .ok v) (w : World) (hv : ErrVars w) :
    Calls Tryd.prog 76 #[.string s, .int .i64 10, .int .i64 64] w fun e w' => (∃ v N, e = .returned (.tuple #[.int .i64 v, .iface 142 (.pointer (some ⟨N, 0, none⟩))])) ∧ Below w.heap.size w w' :=
  (parseInt_any s hs w hv).mono fun e w' hp => by
    rcases hp with ⟨x, hx, he, hb⟩ | ⟨x, N, hx, he, hb⟩
    · exact absurd hx (h x)
    · exact ⟨⟨x, N, he⟩, hb⟩
theorem guess_ok (t : ByteArray) (h : 0 < t.size) (hs : t.size ≤ 1026) (hT : (t.toList == [84, 82, 85, 69]) = false) (hF : (t.toList == [70, 65, 76, 83, 69]) = false) (b0 : ((((t[0]'h).toNat : Nat) : Int) == 34) = false) (v : Int) (hp : Lib.parseIntB 64 t.data.toList = .ok v) (w : World) (hv : ErrVars w) : Calls Tryd.prog 62 #[.string t] w (GPost t.data.toList w) := by
  have hne := ne_nil h
  have HV := Lib.hid hv
  have HP := Lib.hid hp
  clear hv hp
  go_enter Tryd.func62, Tryd.ntmps62
  go_wp2_with fail
  refine (parseInt_ok t (by omega) v HP.out _ (HV.out.below ((Below.refl _ _).alloc (Nat.le_refl _) _))).mono ?_
  rintro e w1 ⟨rfl, hb1⟩
  obtain ⟨hc1, hf1⟩ := bcell hb1
  have hz1 : w.heap.size < w1.heap.size := by have := hb1.size; simp at this; omega
  have hB1 : Below w.heap.size w w1 := ((Below.refl _ _).alloc (Nat.le_refl _) _).trans (hb1.mono (by simp))
  go_wp2_with fail
  first | (go_region_with (first | (go_at_call 27; refine (number_any _ _).mono ?_; rintro e w' ⟨rfl, rfl⟩))) | fail
  all_goals
    go_wp2
    refine bodyPost_ret (v := .tuple #[.agg #[.int .i64 1, .int .i64 v, .string ⟨#[]⟩, .bool false], .bool true]) (by simp [results, Tryd.results62, go_sem, hz1, hc1]) rfl ?_
    refine ⟨1, v, ⟨#[]⟩, false, true, rfl, ?_, fun _ => i64_of_parse HP.out, fun k n s b hn hv he => ?_⟩
    · repeat (first | exact hB1 | apply Below.drew | refine Below.setCell ?_ (by show w.heap.size ≤ w.heap.size; omega) _ | refine Below.alloc ?_ (by first | omega | (simp [World.setCell]; done) | (simp [World.setCell]; omega)) _)
    · obtain ⟨rfl, h2⟩ := num_only h hT hF b0 hn hv he
      obtain ⟨rfl, rfl⟩ := valid_1' hv
      have hp := HP.out
      rw [h2, parse_itoa n hn] at hp
      injection hp with hp
      exact ⟨rfl, rfl, hp.symm, rfl, rfl⟩
theorem guess_bad (t : ByteArray) (h : 0 < t.size) (hs : t.size ≤ 1026) (hT : (t.toList == [84, 82, 85, 69]) = false) (hF : (t.toList == [70, 65, 76, 83, 69]) = false) (b0 : ((((t[0]'h).toNat : Nat) : Int) == 34) = false) (hp : ∀ v, Lib.parseIntB 64 t.data.toList ≠ .ok v) (w : World) (hv : ErrVars w) : Calls Tryd.prog 62 #[.string t] w (GPost t.data.toList w) := by
  have hne := ne_nil h
  have HV := Lib.hid hv
  have HP := Lib.hid hp
  clear hv hp
  go_enter Tryd.func62, Tryd.ntmps62
  go_wp2_with fail
  refine (parseInt_bad t (by omega) HP.out _ (HV.out.below ((Below.refl _ _).alloc (Nat.le_refl _) _))).mono ?_
  rintro e w1 ⟨⟨v, N, rfl⟩, hb1⟩
  obtain ⟨hc1, hf1⟩ := bcell hb1
  have hz1 : w.heap.size < w1.heap.size := by have := hb1.size; simp at this; omega
  have hB1 : Below w.heap.size w w1 := ((Below.refl _ _).alloc (Nat.le_refl _) _).trans (hb1.mono (by simp))
  go_wp2_with fail
  first | (go_region_with (first | (go_at_call 27; refine (number_any _ _).mono ?_; rintro e w' ⟨rfl, rfl⟩))) | fail
  all_goals
    go_wp2
    refine bodyPost_ret (v := .tuple #[.agg #[.int .i64 1, .int .i64 v, .string ⟨#[]⟩, .bool false], .bool false]) (by simp [results, Tryd.results62, go_sem, hz1, hc1]) rfl ?_
    refine ⟨1, v, ⟨#[]⟩, false, false, rfl, ?_, (fun h => absurd h (by decide)), fun k n s b hn hv he => ?_⟩
    · repeat (first | exact hB1 | apply Below.drew | refine Below.setCell ?_ (by show w.heap.size ≤ w.heap.size; omega) _ | refine Below.alloc ?_ (by first | omega | (simp [World.setCell]; done) | (simp [World.setCell]; omega)) _)
    · obtain ⟨rfl, h2⟩ := num_only h hT hF b0 hn hv he
      have hp := HP.out n
      rw [h2] at hp
      exact absurd (parse_itoa n hn) hp
theorem guess_num (t : ByteArray) (h : 0 < t.size) (hs : t.size ≤ 1026) (hT : (t.toList == [84, 82, 85, 69]) = false) (hF : (t.toList == [70, 65, 76, 83, 69]) = false) (b0 : ((((t[0]'h).toNat : Nat) : Int) == 34) = false) (w : World) (hv : ErrVars w) : Calls Tryd.prog 62 #[.string t] w (GPost t.data.toList w) := by
  rcases Classical.em (∃ v, Lib.parseIntB 64 t.data.toList = .ok v) with ⟨v, hp⟩ | hp
  · exact guess_ok t h hs hT hF b0 v hp w hv
  · exact guess_bad t h hs hT hF b0 (fun v hv' => hp ⟨v, hv'⟩) w hv
theorem guess_any (t : ByteArray) (w : World) (hv : ErrVars w) : Calls Tryd.prog 62 #[.string t] w (GPost t.data.toList w) := by
  have hl : t.data.toList.length = t.size := by simp
  by_cases h : 0 < t.size
  · by_cases hs : t.size ≤ 1026
    · cases hT : t.toList == [84, 82, 85, 69]
      · cases hF : t.toList == [70, 65, 76, 83, 69]
        · cases b0 : ((((t[0]'h).toNat : Nat) : Int) == 34)
          · exact guess_num t h hs hT hF b0 w hv
          · exact guess_text t h hs hT hF b0 w hv
        · have e := beq_iff_eq.1 hF
          rw [ByteArray.toList_eq] at e
          rw [e, show t = ⟨#[70, 65, 76, 83, 69]⟩ from bytes_ext e]
          exact guess_false w
      · have e := beq_iff_eq.1 hT
        rw [ByteArray.toList_eq] at e
        rw [e, show t = ⟨#[84, 82, 85, 69]⟩ from bytes_ext e]
        exact guess_true w
    · exact guess_long t (by omega) w
  · have e : t.data.toList = [] := List.eq_nil_of_length_eq_zero (by omega)
    rw [e, show t = ⟨#[]⟩ from bytes_ext e]
    exact guess_empty w
end Go.Proofs.YtkficmbkoinjjaaDoor.V
