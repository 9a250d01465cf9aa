/-
  What the law WheelNone asks comes out true at any two numbers.
-/
import Derived.Test.YtnciefdhgokffaaAwake
namespace Go.Proofs.Ytnciefdhgokffaa
open Go.RowKit

theorem none_new (id : Int) : atX (newOf 4) id = 0 ∧ stopB (newOf 4) id = false := by
  have h : ¬ setT (newOf 4) id := fun h => by have := h.2; simp [newOf] at this
  exact ⟨if_neg h, decide_eq_false h⟩
theorem none_set (id t : Int) : setB (newOf 4) id = decide (0 ≤ id ∧ id < 4) ∧ stopB (setOf (newOf 4) id t) id = decide (0 ≤ id ∧ id < 4) := by
  refine ⟨rfl, ?_⟩
  by_cases h : 0 ≤ id ∧ id < 4
  · rw [decide_eq_true h]
    have hh : hasT (newOf 4) id := h
    refine decide_eq_true ?_
    rw [show setOf (newOf 4) id t = _ from if_pos hh]
    refine ⟨h, ?_⟩
    show 0 < (upd (newOf 4).f id.toNat _ id.toNat).set
    rw [upd_same]; exact Nat.succ_pos _
  · rw [decide_eq_false h]
    have hh : ¬ hasT (newOf 4) id := h
    refine decide_eq_false ?_
    rw [show setOf (newOf 4) id t = _ from if_neg hh]
    exact fun k => h k.1

set_option maxHeartbeats 4000000 in
theorem wheelNone_walk (id t : Int) (w : World) : Calls Try.prog 7 #[.int .i64 id, .int .i64 t] w fun e w' => e = .returned (.bool true) ∧ Below w.heap.size w w' := by
  have N0 : Hid (∀ W : World, Calls Try.prog 8 #[.int .i64 4] W fun e w' => e = .returned (.pointer (some ⟨W.heap.size, 0, none⟩)) ∧ AtW w' W.heap.size (newOf 4) ∧ Below W.heap.size W w') := fun W => new_any 4 W
  have T1 : Hid (∀ B W, AtW W B (newOf 4) → Calls Try.prog 17 #[.pointer (some ⟨B, 0, none⟩), .int .i64 id] W fun e w' => e = .returned (.tuple #[.int .i64 0, .bool false]) ∧ w' = W) := fun B W h => by
    have := at_any B (newOf 4) id (by decide) W h; rw [(none_new id).1, (none_new id).2] at this; exact this
  have T2 : Hid (∀ B W, AtW W B (newOf 4) → Calls Try.prog 15 #[.pointer (some ⟨B, 0, none⟩), .int .i64 id, .int .i64 t] W fun e w' => e = .returned (.bool (decide (0 ≤ id ∧ id < 4))) ∧ Now B (setOf (newOf 4) id t) W w') := fun B W h => by
    have := set_any 0 (by omega) B (newOf 4) id t W (newOf_ok (by omega)) h; rw [(none_set id t).1] at this; exact this
  have T3 : Hid (∀ B W, AtW W B (setOf (newOf 4) id t) → Calls Try.prog 13 #[.pointer (some ⟨B, 0, none⟩), .int .i64 id] W fun e w' => e = .returned (.bool (decide (0 ≤ id ∧ id < 4))) ∧ Now B (stopOf (setOf (newOf 4) id t) id) W w') := fun B W h => by
    have := stop_any B (setOf (newOf 4) id t) id (setOf_ok (K := 0) (newOf_ok (by omega)) id t).n16 W h; rw [(none_set id t).2] at this; exact this
  have hw : ∃ b1 b2 : Bool, decide (0 ≤ id) = b1 ∧ decide (id < 4) = b2 := ⟨_, _, rfl, rfl⟩
  obtain ⟨b1, b2, d1, d2⟩ := hw
  have hd : decide (0 ≤ id ∧ id < 4) = (b1 && b2) := by rw [← d1, ← d2]; simp
  rw [hd] at T2 T3
  clear hd
  generalize setOf (newOf 4) id t = q at *
  go_enter Try.func7, Try.ntmps7
  go_wp2_with fail
  refine (at_nil id _).mono ?_
  rintro e w1 ⟨rfl, hw1⟩
  subst hw1
  go_wp2_with fail
  refine (next_nil _).mono ?_
  rintro e w1 ⟨rfl, hw1⟩
  subst hw1
  go_wp2_with fail
  refine (set_nil id t _).mono ?_
  rintro e w1 ⟨rfl, hw1⟩
  subst hw1
  go_wp2_with fail
  refine (stop_nil id _).mono ?_
  rintro e w1 ⟨rfl, hw1⟩
  subst hw1
  go_wp2_with fail
  refine (due_nil t _).mono ?_
  rintro e w1 ⟨rfl, hw1⟩
  subst hw1
  go_wp2_with fail
  refine (N0.out _).mono ?_
  rintro e w2 ⟨rfl, hA, hb⟩
  have hBl : w1.heap.size ≤ w1.heap.size := Nat.le_refl _
  obtain ⟨B, hB⟩ : ∃ B, B = w1.heap.size := ⟨_, rfl⟩
  rw [← hB] at hA ⊢
  have hBl : w1.heap.size ≤ B := by omega
  have HA := hide hA
  clear hA hB N0
  cases b1 <;> cases b2
  all_goals
    go_wp2_with fail
    refine (T1.out _ _ HA.out).mono ?_
    rintro e w3 ⟨rfl, hw3⟩
    subst hw3
    go_wp2_with fail
    refine (awake_any _).mono ?_
    rintro e w4 ⟨rfl, hb4⟩
    replace hb := below_next hb hb4
    replace HA := hide (AtW.below HA.out hb4)
    clear hb4
    go_wp2_with fail
    refine (T2.out _ _ HA.out).mono ?_
    rintro e w5 ⟨rfl, hA5, ht⟩
    replace hb := turn_next hb ht hBl
    have HA5 := hide hA5
    clear ht hA5 HA
    go_wp2_with fail
    refine (T3.out _ _ HA5.out).mono ?_
    rintro e w6 ⟨rfl, hA6, ht⟩
    replace hb := turn_next hb ht hBl
    clear ht hA6 HA5
    go_wp2
    go_ret
    exact ⟨rfl, hb⟩

end Go.Proofs.Ytnciefdhgokffaa
