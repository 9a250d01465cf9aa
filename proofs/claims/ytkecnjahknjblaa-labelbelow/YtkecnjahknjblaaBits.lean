/-
  What the document's own answers for labels come to, called with any labels: one contract a function.
-/
import Derived.Test.YtkecnjahknjblaaBase
import Derived.Test.YtkecnjahknjblaaMath
namespace Go.Proofs.Ytkecnjahknjblaa
open Go.RowKit

theorem ret_bool {a b : Bool} (h : a = b) : Ending.returned (.bool a) = .returned (.bool b) := by rw [h]
theorem ret_int {k : IntKind} {a b : Int} (h : a = b) : Ending.returned (.int k a) = .returned (.int k b) := by rw [h]

set_option maxHeartbeats 400000 in
theorem bit_any (x : Int) (n : Nat) (h : n < 64) (w : World) :
    Calls Try.prog 20 #[.int .i64 x, .int .i64 n] w fun e w' => e = .returned (.bool (bt x n)) ∧ w' = w := by
  go_enter Try.func20, Try.ntmps20
  go_wp2
  go_ret
  exact ⟨ret_bool (bit_walk x n), rfl⟩

set_option maxHeartbeats 400000 in
theorem refGood_no (l c : Int) (w : World) (n : Nat) (h1 : 16 ≤ n) (h2 : n < 64) (hn : bt c n = true) :
    Calls Try.prog 12 #[.agg #[.int .i64 l, .int .i64 c]] w fun e w' => e = .returned (.bool false) ∧ Below w.heap.size w w' := by
  have HN : Hid (bt c n = true) := hn
  clear hn
  go_enter Try.func12, Try.ntmps12
  go_wp2
  go_loop [3] (fun i => ∃ k : Nat, k ≤ n ∧ i = .int .i64 k) (fun i => 64 - (intOf i).toNat)
  case atStart => exact ⟨16, h1, rfl⟩
  case round =>
    obtain ⟨k, hk, rfl⟩ := hrel
    have hlt : k < 64 := by omega
    by_cases hb : bt c k = true
    · go_wp2_with (go_at_call 20; refine (bit_any _ _ (by omega) _).mono ?_; rintro e w' ⟨rfl, rfl⟩)
      go_ret
      exact ⟨rfl, (Below.refl _ _).alloc (Nat.le_refl _) _⟩
    · have hb' : bt c k = false := by simpa using hb
      clear hb
      have hne : k < n := by
        rcases Nat.lt_or_ge k n with h | h
        · exact h
        · have e : k = n := by omega
          subst e; rw [HN.out] at hb'; cases hb'
      go_wp2_with (go_at_call 20; refine (bit_any _ _ (by omega) _).mono ?_; rintro e w' ⟨rfl, rfl⟩)
      go_round
      case rel => exact ⟨k + 1, by omega, by go_num⟩
      case measure => simp [intOf]; omega

def levB (l : Int) : Bool := decide (0 ≤ l ∧ l < 8)
theorem lev_yes {l : Int} (h : 0 ≤ l) : decide (l < 8) = levB l := by simp [levB, h]
theorem lev_no {l : Int} (h : l < 0) : false = levB l := by simp [levB]; omega

set_option maxHeartbeats 400000 in
theorem refGood_yes (l c : Int) (w : World) (hn : ∀ n, 16 ≤ n → n < 64 → bt c n = false) :
    Calls Try.prog 12 #[.agg #[.int .i64 l, .int .i64 c]] w fun e w' => e = .returned (.bool (levB l)) ∧ Below w.heap.size w w' := by
  have HN : Hid (∀ n, 16 ≤ n → n < 64 → bt c n = false) := hn
  clear hn
  by_cases hl : 0 ≤ l
  all_goals
    go_enter Try.func12, Try.ntmps12
    go_wp2
    go_loop [3] (fun i => ∃ k : Nat, 16 ≤ k ∧ k ≤ 64 ∧ i = .int .i64 k) (fun i => 64 - (intOf i).toNat)
    case atStart => exact ⟨16, by omega, by omega, rfl⟩
    case round =>
      obtain ⟨k, hk1, hk, rfl⟩ := hrel
      by_cases hlt : k < 64
      · have hb' : bt c k = false := HN.out k hk1 hlt
        go_wp2_with (go_at_call 20; refine (bit_any _ _ (by omega) _).mono ?_; rintro e w' ⟨rfl, rfl⟩)
        go_round
        case rel => exact ⟨k + 1, by omega, by omega, by go_num⟩
        case measure => simp [intOf]; omega
      · go_wp2
        go_ret
        first
          | exact ⟨ret_bool (lev_yes hl), (Below.refl _ _).alloc (Nat.le_refl _) _⟩
          | exact ⟨ret_bool (lev_no (by assumption)), (Below.refl _ _).alloc (Nat.le_refl _) _⟩

theorem refGood_any (l c : Int) (w : World) (hc : In64 c) :
    Calls Try.prog 12 #[.agg #[.int .i64 l, .int .i64 c]] w fun e w' => e = .returned (.bool (goodB l c)) ∧ Below w.heap.size w w' := by
  have hlow := low_iff c hc
  by_cases h : ∀ n, 16 ≤ n → n < 64 → bt c n = false
  · have e : goodB l c = levB l := by
      have := hlow.1 h
      unfold goodB levB; rw [decide_eq_decide]; omega
    rw [e]; exact refGood_yes l c w h
  · have e : goodB l c = false := by
      unfold goodB; rw [decide_eq_false_iff_not]; intro hh; exact h (hlow.2 ⟨hh.2.2.1, hh.2.2.2⟩)
    rw [e]
    have hex : ∃ n, 16 ≤ n ∧ n < 64 ∧ bt c n = true := by
      refine Classical.byContradiction fun hne => h fun n h1 h2 => ?_
      cases hb : bt c n
      · rfl
      · exact (hne ⟨n, h1, h2, hb⟩).elim
    obtain ⟨n, h1, h2, hn⟩ := hex
    exact refGood_no l c w n h1 h2 hn

/-- The first bit that a has and b has not. -/
theorem refLeq_no (al ac bl bc : Int) (w : World) (n : Nat) (h2 : n < 64) (hn : bt ac n = true) (hm : bt bc n = false) :
    Calls Try.prog 13 #[.agg #[.int .i64 al, .int .i64 ac], .agg #[.int .i64 bl, .int .i64 bc]] w fun e w' => e = .returned (.bool false) ∧ Below w.heap.size w w' := by
  have HN : Hid (bt ac n = true ∧ bt bc n = false) := ⟨hn, hm⟩
  clear hn hm
  go_enter Try.func13, Try.ntmps13
  go_wp2
  go_loop [5] (fun i => ∃ k : Nat, k ≤ n ∧ i = .int .i64 k) (fun i => 64 - (intOf i).toNat)
  case atStart => exact ⟨0, by omega, rfl⟩
  case round =>
    obtain ⟨k, hk, rfl⟩ := hrel
    have hlt : k < 64 := by omega
    cases ha : bt ac k
    · have hne : k < n := by
        rcases Nat.lt_or_ge k n with h | h
        · exact h
        · have e : k = n := by omega
          subst e; rw [HN.out.1] at ha; cases ha
      go_wp2_with (go_at_call 20; refine (bit_any _ _ (by omega) _).mono ?_; rintro e w' ⟨rfl, rfl⟩)
      go_round
      case rel => exact ⟨k + 1, by omega, by go_num⟩
      case measure => simp [intOf]; omega
    · cases hb : bt bc k
      · go_wp2_with (go_at_call 20; refine (bit_any _ _ (by omega) _).mono ?_; rintro e w' ⟨rfl, rfl⟩)
        go_ret
        exact ⟨rfl, ((Below.refl _ _).alloc (Nat.le_refl _) _).alloc (by simp) _⟩
      · have hne : k < n := by
          rcases Nat.lt_or_ge k n with h | h
          · exact h
          · have e : k = n := by omega
            subst e; rw [HN.out.2] at hb; cases hb
        go_wp2_with (go_at_call 20; refine (bit_any _ _ (by omega) _).mono ?_; rintro e w' ⟨rfl, rfl⟩)
        go_round
        case rel => exact ⟨k + 1, by omega, by go_num⟩
        case measure => simp [intOf]; omega

theorem refLeq_yes (al ac bl bc : Int) (w : World) (hn : ∀ n, n < 64 → bt ac n = true → bt bc n = true) :
    Calls Try.prog 13 #[.agg #[.int .i64 al, .int .i64 ac], .agg #[.int .i64 bl, .int .i64 bc]] w fun e w' => e = .returned (.bool (!(decide (bl < al)))) ∧ Below w.heap.size w w' := by
  have HN : Hid (∀ n, n < 64 → bt ac n = true → bt bc n = true) := hn
  clear hn
  go_enter Try.func13, Try.ntmps13
  go_wp2
  go_loop [5] (fun i => ∃ k : Nat, k ≤ 64 ∧ i = .int .i64 k) (fun i => 64 - (intOf i).toNat)
  case atStart => exact ⟨0, by omega, rfl⟩
  case round =>
    obtain ⟨k, hk, rfl⟩ := hrel
    by_cases hlt : k < 64
    · cases ha : bt ac k
      · go_wp2_with (go_at_call 20; refine (bit_any _ _ (by omega) _).mono ?_; rintro e w' ⟨rfl, rfl⟩)
        go_round
        case rel => exact ⟨k + 1, by omega, by go_num⟩
        case measure => simp [intOf]; omega
      · have hb := HN.out k hlt ha
        go_wp2_with (go_at_call 20; refine (bit_any _ _ (by omega) _).mono ?_; rintro e w' ⟨rfl, rfl⟩)
        go_round
        case rel => exact ⟨k + 1, by omega, by go_num⟩
        case measure => simp [intOf]; omega
    · go_wp2
      go_ret
      exact ⟨rfl, ((Below.refl _ _).alloc (Nat.le_refl _) _).alloc (by simp) _⟩

theorem leqB_sub (al ac bl bc : Int) : leqB al ac bl bc = (decide (al ≤ bl) && sub ac bc) := by
  unfold leqB; rw [andNot_zero]

theorem refLeq_any (al ac bl bc : Int) (w : World) :
    Calls Try.prog 13 #[.agg #[.int .i64 al, .int .i64 ac], .agg #[.int .i64 bl, .int .i64 bc]] w fun e w' => e = .returned (.bool (leqB al ac bl bc)) ∧ Below w.heap.size w w' := by
  rw [leqB_sub]
  by_cases h : sub ac bc = true
  · rw [h]
    rw [show (decide (al ≤ bl) && true) = (!(decide (bl < al))) by rw [Bool.eq_iff_iff]; simp]
    exact refLeq_yes al ac bl bc w ((sub_iff _ _).1 h)
  · have hf : sub ac bc = false := by simpa using h
    rw [hf, Bool.and_false]
    have hex : ∃ n, n < 64 ∧ bt ac n = true ∧ bt bc n = false := by
      refine Classical.byContradiction fun hne => h ((sub_iff _ _).2 fun n h1 h2 => ?_)
      cases hb : bt bc n
      · exact (hne ⟨n, h1, h2, hb⟩).elim
      · rfl
    obtain ⟨n, h2, hn, hm⟩ := hex
    exact refLeq_no al ac bl bc w n h2 hn hm

end Go.Proofs.Ytkecnjahknjblaa
