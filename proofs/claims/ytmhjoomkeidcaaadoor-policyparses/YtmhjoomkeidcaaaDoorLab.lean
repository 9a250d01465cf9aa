/-
  What label.Leq and the document's own answer for it come to, called with any two labels.
-/
import Derived.Test.YtmhjoomkeidcaaaDoorL2Base
namespace Go.Proofs.YtmhjoomkeidcaaaDoor
open Go.RowKit L2

set_option maxHeartbeats 400000 in
theorem leq_yes (al ac bl bc : Int) (w : World) (h : al ≤ bl) :
    Calls Tryd.prog 12 #[.agg #[.int .i64 al, .int .i64 ac], .agg #[.int .i64 bl, .int .i64 bc]] w fun e w' => e = .returned (.bool (bits .andNot .i64 ac bc == 0)) ∧ Below w.heap.size w w' := by
  go_enter Tryd.func12, Tryd.ntmps12
  go_wp2
  go_ret
  exact ⟨rfl, ((Below.refl _ _).alloc (Nat.le_refl _) _).alloc (by simp) _⟩

set_option maxHeartbeats 400000 in
theorem leq_no (al ac bl bc : Int) (w : World) (h : ¬ al ≤ bl) :
    Calls Tryd.prog 12 #[.agg #[.int .i64 al, .int .i64 ac], .agg #[.int .i64 bl, .int .i64 bc]] w fun e w' => e = .returned (.bool false) ∧ Below w.heap.size w w' := by
  go_enter Tryd.func12, Tryd.ntmps12
  go_wp2
  go_ret
  exact ⟨rfl, ((Below.refl _ _).alloc (Nat.le_refl _) _).alloc (by simp) _⟩

/-- May what has one label flow to what has another one? -/
def leqB (al ac bl bc : Int) : Bool := decide (al ≤ bl) && (bits .andNot .i64 ac bc == 0)

theorem leq_any (al ac bl bc : Int) (w : World) :
    Calls Tryd.prog 12 #[.agg #[.int .i64 al, .int .i64 ac], .agg #[.int .i64 bl, .int .i64 bc]] w fun e w' => e = .returned (.bool (leqB al ac bl bc)) ∧ Below w.heap.size w w' := by
  by_cases h : al ≤ bl
  · have e : leqB al ac bl bc = (bits .andNot .i64 ac bc == 0) := by simp [leqB, h]
    rw [e]; exact leq_yes al ac bl bc w h
  · have e : leqB al ac bl bc = false := by simp [leqB, h]
    rw [e]; exact leq_no al ac bl bc w h

/-- The first bit that a has and b has not. -/
theorem refLeq_no (al ac bl bc : Int) (w : World) (n : Nat) (h2 : n < 64) (hn : bt ac n = true) (hm : bt bc n = false) :
    Calls Tryd.prog 30 #[.agg #[.int .i64 al, .int .i64 ac], .agg #[.int .i64 bl, .int .i64 bc]] w fun e w' => e = .returned (.bool false) ∧ Below w.heap.size w w' := by
  have HN : Hid (bt ac n = true ∧ bt bc n = false) := ⟨hn, hm⟩
  clear hn hm
  go_enter Tryd.func30, Tryd.ntmps30
  go_wp2
  go_loop [5] (fun i => ∃ k : Nat, k ≤ n ∧ i = .int .i64 k) (fun i => 64 - (intOf i).toNat)
  case atStart => exact ⟨0, by omega, rfl⟩
  case round =>
    obtain ⟨k, hk, rfl⟩ := hrel
    have hlt : k < 64 := by omega
    cases ha : bt ac k
    · have hne : k < n := by
        rcases Nat.lt_or_ge k n with h | h
        · exact h
        · have e : k = n := by omega
          subst e; rw [HN.out.1] at ha; cases ha
      go_wp2_with (go_at_call 53; refine (bit_any _ _ (by omega) _).mono ?_; rintro e w' ⟨rfl, rfl⟩)
      go_round
      case rel => exact ⟨k + 1, by omega, by go_num⟩
      case measure => simp [intOf]; omega
    · cases hb : bt bc k
      · go_wp2_with (go_at_call 53; refine (bit_any _ _ (by omega) _).mono ?_; rintro e w' ⟨rfl, rfl⟩)
        go_ret
        exact ⟨rfl, ((Below.refl _ _).alloc (Nat.le_refl _) _).alloc (by simp) _⟩
      · have hne : k < n := by
          rcases Nat.lt_or_ge k n with h | h
          · exact h
          · have e : k = n := by omega
            subst e; rw [HN.out.2] at hb; cases hb
        go_wp2_with (go_at_call 53; refine (bit_any _ _ (by omega) _).mono ?_; rintro e w' ⟨rfl, rfl⟩)
        go_round
        case rel => exact ⟨k + 1, by omega, by go_num⟩
        case measure => simp [intOf]; omega

theorem refLeq_yes (al ac bl bc : Int) (w : World) (hn : ∀ n, n < 64 → bt ac n = true → bt bc n = true) :
    Calls Tryd.prog 30 #[.agg #[.int .i64 al, .int .i64 ac], .agg #[.int .i64 bl, .int .i64 bc]] w fun e w' => e = .returned (.bool (!(decide (bl < al)))) ∧ Below w.heap.size w w' := by
  have HN : Hid (∀ n, n < 64 → bt ac n = true → bt bc n = true) := hn
  clear hn
  go_enter Tryd.func30, Tryd.ntmps30
  go_wp2
  go_loop [5] (fun i => ∃ k : Nat, k ≤ 64 ∧ i = .int .i64 k) (fun i => 64 - (intOf i).toNat)
  case atStart => exact ⟨0, by omega, rfl⟩
  case round =>
    obtain ⟨k, hk, rfl⟩ := hrel
    by_cases hlt : k < 64
    · cases ha : bt ac k
      · go_wp2_with (go_at_call 53; refine (bit_any _ _ (by omega) _).mono ?_; rintro e w' ⟨rfl, rfl⟩)
        go_round
        case rel => exact ⟨k + 1, by omega, by go_num⟩
        case measure => simp [intOf]; omega
      · have hb := HN.out k hlt ha
        go_wp2_with (go_at_call 53; refine (bit_any _ _ (by omega) _).mono ?_; rintro e w' ⟨rfl, rfl⟩)
        go_round
        case rel => exact ⟨k + 1, by omega, by go_num⟩
        case measure => simp [intOf]; omega
    · go_wp2
      go_ret
      exact ⟨rfl, ((Below.refl _ _).alloc (Nat.le_refl _) _).alloc (by simp) _⟩

theorem leqB_sub (al ac bl bc : Int) : leqB al ac bl bc = (decide (al ≤ bl) && sub ac bc) := by
  unfold leqB; rw [andNot_zero]

theorem refLeq_any (al ac bl bc : Int) (w : World) :
    Calls Tryd.prog 30 #[.agg #[.int .i64 al, .int .i64 ac], .agg #[.int .i64 bl, .int .i64 bc]] w fun e w' => e = .returned (.bool (leqB al ac bl bc)) ∧ Below w.heap.size w w' := by
  rw [leqB_sub]
  by_cases h : sub ac bc = true
  · rw [h]
    rw [show (decide (al ≤ bl) && true) = (!(decide (bl < al))) by rw [Bool.eq_iff_iff]; simp]
    exact refLeq_yes al ac bl bc w ((sub_iff _ _).1 h)
  · have hf : sub ac bc = false := by simpa using h
    rw [hf, Bool.and_false]
    have hex : ∃ n, n < 64 ∧ bt ac n = true ∧ bt bc n = false := by
      refine Classical.byContradiction fun hne => h ((sub_iff _ _).2 fun n h1 h2 => ?_)
      cases hb : bt bc n
      · exact (hne ⟨n, h1, h2, hb⟩).elim
      · rfl
    obtain ⟨n, h2, hn, hm⟩ := hex
    exact refLeq_no al ac bl bc w n h2 hn hm

end Go.Proofs.YtmhjoomkeidcaaaDoor
