/-
  What the functions on one tick come to: tick's bounded and Add, and the document's Held and Add.
-/
import Derived.Test.YtkpnkpkokjcdoaaMath
import Derived.WalkKit
import Derived.WalkSpells
import Derived.WalkLawsBesides
namespace Go.Proofs.Ytkpnkpkokjcdoaa
open Go.RowKit

theorem wrapB {n : Int} (h : -9223372036854775808 ≤ n ∧ n ≤ 9223372036854775807) : IntKind.i64.wrap n = n := by rw [IntKind.wrap_i64]; omega

/-- A tick so much later. -/
def later (t d : Int) : Int := hold t + min (max d 0) (4611686018427387904 - hold t)

set_option maxHeartbeats 400000 in
theorem bounded_any (t : Int) (w : World) : Calls Try.prog 18 #[.int .i64 t] w fun e w' => e = .returned (.int .i64 (hold t)) ∧ w' = w := by
  by_cases h0 : t < 0
  · rw [show hold t = 0 by simp [hold, h0]]
    go_enter Try.func18, Try.ntmps18
    go_wp2
    go_ret
    exact ⟨rfl, rfl⟩
  · by_cases h1 : 4611686018427387904 < t
    · rw [show hold t = 4611686018427387904 by simp [hold, h0, h1]]
      go_enter Try.func18, Try.ntmps18
      go_wp2
      go_ret
      exact ⟨rfl, rfl⟩
    · rw [show hold t = t by simp [hold, h0, h1]]
      go_enter Try.func18, Try.ntmps18
      go_wp2
      go_ret
      exact ⟨rfl, rfl⟩

set_option maxHeartbeats 400000 in
theorem held_any (t : Int) (w : World) : Calls Try.prog 17 #[.int .i64 t] w fun e w' => e = .returned (.int .i64 (hold t)) ∧ w' = w := by
  by_cases h0 : t < 0
  · rw [show hold t = 0 by simp [hold, h0]]
    go_enter Try.func17, Try.ntmps17
    go_wp2
    go_ret
    exact ⟨rfl, rfl⟩
  · by_cases h1 : 4611686018427387904 < t
    · rw [show hold t = 4611686018427387904 by simp [hold, h0, h1]]
      go_enter Try.func17, Try.ntmps17
      go_wp2
      go_ret
      exact ⟨rfl, rfl⟩
    · rw [show hold t = t by simp [hold, h0, h1]]
      go_enter Try.func17, Try.ntmps17
      go_wp2
      go_ret
      exact ⟨rfl, rfl⟩

theorem later_low {t d : Int} (h : d < 0) : later t d = hold t := by have := hold_le t; unfold later; omega
theorem later_high {t d : Int} (h : 4611686018427387904 - hold t < d) : later t d = 4611686018427387904 := by have := hold_le t; unfold later; omega
theorem later_mid {t d : Int} (h : 0 ≤ d) (h' : d ≤ 4611686018427387904 - hold t) : later t d = hold t + d := by unfold later; omega

set_option maxHeartbeats 400000 in
theorem add_any (t d : Int) (w : World) : Calls Try.prog 15 #[.int .i64 t, .int .i64 d] w fun e w' => e = .returned (.int .i64 (later t d)) ∧ w' = w := by
  have g0 := hold_ge t
  have g1 := hold_le t
  have hb : ∀ w : World, Calls Try.prog 18 #[.int .i64 t] w fun e w' => e = .returned (.int .i64 (hold t)) ∧ w' = w := bounded_any t
  by_cases h0 : d < 0
  · rw [later_low h0]
    generalize hold t = T at *
    go_enter Try.func15, Try.ntmps15
    go_wp2_with (go_at_call 18; refine (hb _).mono ?_; rintro e w2 ⟨rfl, rfl⟩; clear hb)
    all_goals go_ret
    all_goals exact ⟨rfl, rfl⟩
  · by_cases h1 : 4611686018427387904 - hold t < d
    · rw [later_high h1]
      generalize hold t = T at *
      go_enter Try.func15, Try.ntmps15
      go_wp2_with (go_at_call 18; refine (hb _).mono ?_; rintro e w2 ⟨rfl, rfl⟩; clear hb)
      all_goals go_ret
      all_goals exact ⟨by simp; omega, rfl⟩
    · rw [later_mid (by omega) (by omega)]
      generalize hold t = T at *
      go_enter Try.func15, Try.ntmps15
      go_wp2_with (go_at_call 18; refine (hb _).mono ?_; rintro e w2 ⟨rfl, rfl⟩; clear hb)
      all_goals go_ret
      all_goals exact ⟨rfl, rfl⟩

set_option maxHeartbeats 400000 in
theorem refAdd_any (t d : Int) (w : World) : Calls Try.prog 16 #[.int .i64 t, .int .i64 d] w fun e w' => e = .returned (.int .i64 (later t d)) ∧ w' = w := by
  have g0 := hold_ge t
  have g1 := hold_le t
  have hb : ∀ w : World, Calls Try.prog 17 #[.int .i64 t] w fun e w' => e = .returned (.int .i64 (hold t)) ∧ w' = w := held_any t
  by_cases h0 : d < 0
  · rw [later_low h0]
    generalize hold t = T at *
    go_enter Try.func16, Try.ntmps16
    go_wp2_with (go_at_call 17; refine (hb _).mono ?_; rintro e w2 ⟨rfl, rfl⟩; clear hb)
    all_goals go_ret
    all_goals exact ⟨rfl, rfl⟩
  · by_cases h1 : 4611686018427387904 - hold t < d
    · rw [later_high h1]
      generalize hold t = T at *
      go_enter Try.func16, Try.ntmps16
      go_wp2_with (go_at_call 17; refine (hb _).mono ?_; rintro e w2 ⟨rfl, rfl⟩; clear hb)
      all_goals go_ret
      all_goals exact ⟨rfl, rfl⟩
    · rw [later_mid (by omega) (by omega)]
      generalize hold t = T at *
      go_enter Try.func16, Try.ntmps16
      go_wp2_with (go_at_call 17; refine (hb _).mono ?_; rintro e w2 ⟨rfl, rfl⟩; clear hb)
      all_goals go_ret
      all_goals exact ⟨rfl, rfl⟩

end Go.Proofs.Ytkpnkpkokjcdoaa
