/-
  What tick's Add and bounded, wheel's bounded, has, isSet, At, Stop, Set and New come to.
-/
import Derived.Test.YtnciefdhgokffaaBase
import Derived.Deep.RegionHeld3
namespace Go.Proofs.Ytnciefdhgokffaa
open Go.RowKit

theorem b3 (t : Int) (Q : Int → Prop) (h0 : t < 0 → Q 0) (h1 : 4611686018427387904 < t → Q 4611686018427387904) (h2 : ¬ t < 0 → ¬ 4611686018427387904 < t → Q t) : Q (hold t) := by
  unfold hold
  split
  · exact h0 ‹_›
  · split
    · exact h1 ‹_›
    · exact h2 ‹_› ‹_›

set_option maxHeartbeats 400000 in
theorem tbounded_any (t : Int) (w : World) : Calls Try.prog 32 #[.int .i64 t] w fun e w' => e = .returned (.int .i64 (hold t)) ∧ w' = w := by
  refine b3 t (fun r => Calls Try.prog 32 #[.int .i64 t] w fun e w' => e = .returned (.int .i64 r) ∧ w' = w) (fun h => ?_) (fun h => ?_) (fun h h' => ?_)
  all_goals
    go_enter Try.func32, Try.ntmps32
    go_wp2
    go_ret
    exact ⟨rfl, rfl⟩

set_option maxHeartbeats 400000 in
theorem held_any (t : Int) (w : World) : Calls Try.prog 21 #[.int .i64 t] w fun e w' => e = .returned (.int .i64 (hold t)) ∧ w' = w := by
  refine b3 t (fun r => Calls Try.prog 21 #[.int .i64 t] w fun e w' => e = .returned (.int .i64 r) ∧ w' = w) (fun h => ?_) (fun h => ?_) (fun h h' => ?_)
  all_goals
    go_enter Try.func21, Try.ntmps21
    go_wp2
    go_ret
    exact ⟨rfl, rfl⟩

set_option maxHeartbeats 400000 in
theorem add0_any (t : Int) (w : World) : Calls Try.prog 27 #[.int .i64 t, .int .i64 0] w fun e w' => e = .returned (.int .i64 (hold t)) ∧ w' = w := by
  have g0 := hold_ge t
  have g1 := hold_le t
  have hb : ∀ w : World, Calls Try.prog 32 #[.int .i64 t] w fun e w' => e = .returned (.int .i64 (hold t)) ∧ w' = w := tbounded_any t
  generalize hold t = T at *
  go_enter Try.func27, Try.ntmps27
  go_wp2_with (go_at_call 32; refine (hb _).mono ?_; rintro e w2 ⟨rfl, rfl⟩; clear hb)
  all_goals go_ret
  all_goals exact ⟨by simp <;> omega, rfl⟩

set_option maxHeartbeats 400000 in
theorem bounded_any (t : Int) (w : World) : Calls Try.prog 22 #[.int .i64 t] w fun e w' => e = .returned (.int .i64 (hold t)) ∧ w' = w := by
  have hb : ∀ w : World, Calls Try.prog 27 #[.int .i64 t, .int .i64 0] w fun e w' => e = .returned (.int .i64 (hold t)) ∧ w' = w := add0_any t
  generalize hold t = T at *
  go_enter Try.func22, Try.ntmps22
  go_wp2_with (go_at_call 27; refine (hb _).mono ?_; rintro e w2 ⟨rfl, rfl⟩; clear hb)
  go_ret
  exact ⟨rfl, rfl⟩

set_option maxHeartbeats 400000 in
theorem has_any (B : Nat) (σ : Ws) (id : Int) (w : World) (hA : AtW w B σ) :
    Calls Try.prog 26 #[.pointer (some ⟨B, 0, none⟩), .int .i64 id] w fun e w' => e = .returned (.bool (decide (hasT σ id))) ∧ w' = w := by
  obtain ⟨c0, c1⟩ := hA.tops
  clear hA
  by_cases hk : 0 ≤ id
  · have h0 : decide (0 ≤ id) = true := by simp; omega
    by_cases hn : id < (σ.n : Int)
    · rw [decide_eq_true (show hasT σ id from ⟨hk, hn⟩)]
      have h1 : decide (id < (σ.n : Int)) = true := by simp; omega
      go_enter Try.func26, Try.ntmps26
      go_wp2
      go_ret
      exact ⟨rfl, rfl⟩
    · rw [decide_eq_false (show ¬ hasT σ id from fun h => hn h.2)]
      have h1 : decide (id < (σ.n : Int)) = false := by simp; omega
      go_enter Try.func26, Try.ntmps26
      go_wp2
      go_ret
      exact ⟨rfl, rfl⟩
  · rw [decide_eq_false (show ¬ hasT σ id from fun h => hk h.1)]
    have h0 : decide (0 ≤ id) = false := by simp; omega
    go_enter Try.func26, Try.ntmps26
    go_wp2
    go_ret
    exact ⟨rfl, rfl⟩
set_option maxHeartbeats 400000 in
theorem has_nil (id : Int) (w : World) : Calls Try.prog 26 #[.pointer none, .int .i64 id] w fun e w' => e = .returned (.bool false) ∧ w' = w := by
  go_enter Try.func26, Try.ntmps26
  go_wp2
  go_ret
  exact ⟨rfl, rfl⟩

set_option maxHeartbeats 400000 in
theorem isSet_any (B : Nat) (σ : Ws) (id : Int) (hn : σ.n ≤ 16) (w : World) (hA : AtW w B σ) :
    Calls Try.prog 25 #[.pointer (some ⟨B, 0, none⟩), .int .i64 id] w fun e w' => e = .returned (.bool (decide (setT σ id))) ∧ w' = w := by
  have hH := has_any B σ id w hA
  by_cases hk : hasT σ id
  · rw [decide_eq_true hk] at hH
    obtain ⟨k, rfl⟩ : ∃ k : Nat, id = (k : Int) := ⟨id.toNat, by have := hk.1; omega⟩
    have hk' : k < 16 := by have := hk.2; omega
    have hkz : (k : Int) < 16 := by omega
    obtain ⟨p0, p1⟩ := hA.cells hk'
    by_cases hs : 0 < (σ.f k).set
    · rw [decide_eq_true (show setT σ k from ⟨hk, by simpa using hs⟩)]
      have h1 : decide ((0 : Int) < ((σ.f k).set : Int)) = true := by simp; omega
      clear hA
      go_enter Try.func25, Try.ntmps25
      go_wp2_with (go_at_call 26; refine hH.mono ?_; rintro e w2 ⟨rfl, rfl⟩)
      go_ret
      exact ⟨rfl, rfl⟩
    · rw [decide_eq_false (show ¬ setT σ k from fun h => hs (by simpa using h.2))]
      have h1 : decide ((0 : Int) < ((σ.f k).set : Int)) = false := by simp; omega
      clear hA
      go_enter Try.func25, Try.ntmps25
      go_wp2_with (go_at_call 26; refine hH.mono ?_; rintro e w2 ⟨rfl, rfl⟩)
      go_ret
      exact ⟨rfl, rfl⟩
  · rw [decide_eq_false hk] at hH
    rw [decide_eq_false (show ¬ setT σ id from fun h => hk h.1)]
    clear hA
    go_enter Try.func25, Try.ntmps25
    go_wp2_with (go_at_call 26; refine hH.mono ?_; rintro e w2 ⟨rfl, rfl⟩)
    go_ret
    exact ⟨rfl, rfl⟩
set_option maxHeartbeats 400000 in
theorem isSet_nil (id : Int) (w : World) : Calls Try.prog 25 #[.pointer none, .int .i64 id] w fun e w' => e = .returned (.bool false) ∧ w' = w := by
  go_enter Try.func25, Try.ntmps25
  go_wp2_with (go_at_call 26; refine (has_nil _ _).mono ?_; rintro e w2 ⟨rfl, rfl⟩)
  go_ret
  exact ⟨rfl, rfl⟩

set_option maxHeartbeats 400000 in
theorem at_any (B : Nat) (σ : Ws) (id : Int) (hn : σ.n ≤ 16) (w : World) (hA : AtW w B σ) :
    Calls Try.prog 17 #[.pointer (some ⟨B, 0, none⟩), .int .i64 id] w fun e w' => e = .returned (.tuple #[.int .i64 (atX σ id), .bool (stopB σ id)]) ∧ w' = w := by
  have hH := isSet_any B σ id hn w hA
  unfold atX stopB
  by_cases hk : setT σ id
  · rw [decide_eq_true hk] at hH ⊢
    rw [if_pos hk]
    obtain ⟨k, rfl⟩ : ∃ k : Nat, id = (k : Int) := ⟨id.toNat, by have := hk.1.1; omega⟩
    rw [Int.toNat_natCast]
    have hk' : k < 16 := by have := hk.1.2; omega
    have hkz : (k : Int) < 16 := by omega
    obtain ⟨p0, p1⟩ := hA.cells hk'
    clear hA hk
    go_enter Try.func17, Try.ntmps17
    go_wp2_with (go_at_call 25; refine hH.mono ?_; rintro e w2 ⟨rfl, rfl⟩)
    go_ret2
    exact ⟨rfl, rfl⟩
  · rw [decide_eq_false hk] at hH ⊢
    rw [if_neg hk]
    clear hA hk
    go_enter Try.func17, Try.ntmps17
    go_wp2_with (go_at_call 25; refine hH.mono ?_; rintro e w2 ⟨rfl, rfl⟩)
    go_ret2
    exact ⟨rfl, rfl⟩
set_option maxHeartbeats 400000 in
theorem at_nil (id : Int) (w : World) : Calls Try.prog 17 #[.pointer none, .int .i64 id] w fun e w' => e = .returned (.tuple #[.int .i64 0, .bool false]) ∧ w' = w := by
  go_enter Try.func17, Try.ntmps17
  go_wp2_with (go_at_call 25; refine (isSet_nil _ _).mono ?_; rintro e w2 ⟨rfl, rfl⟩)
  go_ret2
  exact ⟨rfl, rfl⟩

set_option maxHeartbeats 400000 in
theorem stop_any (B : Nat) (σ : Ws) (id : Int) (hn : σ.n ≤ 16) (w : World) (hA : AtW w B σ) :
    Calls Try.prog 13 #[.pointer (some ⟨B, 0, none⟩), .int .i64 id] w fun e w' => e = .returned (.bool (stopB σ id)) ∧ Now B (stopOf σ id) w w' := by
  have hH := isSet_any B σ id hn w hA
  unfold stopOf stopB
  by_cases hk : setT σ id
  · rw [decide_eq_true hk] at hH ⊢
    rw [if_pos hk]
    obtain ⟨k, rfl⟩ : ∃ k : Nat, id = (k : Int) := ⟨id.toNat, by have := hk.1.1; omega⟩
    rw [Int.toNat_natCast]
    have hk' : k < 16 := by have := hk.1.2; omega
    have hkz : (k : Int) < 16 := by omega
    obtain ⟨p0, p1⟩ := hA.cells hk'
    have q0 := hA.frozen (k * 2)
    have q1 := hA.frozen (k * 2 + 1)
    have HA := hide hA
    clear hA hk
    go_enter Try.func13, Try.ntmps13
    go_wp2_with (go_at_call 25; refine hH.mono ?_; rintro e w2 ⟨rfl, hw2⟩; subst hw2)
    go_ret
    exact ⟨rfl, HA.out.put hk' ⟨0, 0⟩, ((Turn.refl _ _).set _ _).set _ _⟩
  · rw [decide_eq_false hk] at hH ⊢
    rw [if_neg hk]
    have HA := hide hA
    clear hA hk
    go_enter Try.func13, Try.ntmps13
    go_wp2_with (go_at_call 25; refine hH.mono ?_; rintro e w2 ⟨rfl, hw2⟩; subst hw2)
    go_ret
    exact ⟨rfl, HA.out, Turn.refl _ _⟩
set_option maxHeartbeats 400000 in
theorem stop_nil (id : Int) (w : World) : Calls Try.prog 13 #[.pointer none, .int .i64 id] w fun e w' => e = .returned (.bool false) ∧ w' = w := by
  go_enter Try.func13, Try.ntmps13
  go_wp2_with (go_at_call 25; refine (isSet_nil _ _).mono ?_; rintro e w2 ⟨rfl, rfl⟩)
  go_ret
  exact ⟨rfl, rfl⟩

end Go.Proofs.Ytnciefdhgokffaa
