/-
  The fixed fact that each statement asks comes out true; and what no arena answers.
-/
import Derived.Test.YtceghlmleamlgaaLive
namespace Go.Proofs.Ytceghlmleamlgaa
open Go.RowKit

theorem turn_next {W a b : World} {B P : Nat} (h : Below W.heap.size W a) (k : Turn B P a b) (h1 : W.heap.size ≤ B) (h2 : W.heap.size ≤ P) : Below W.heap.size W b := h.trans (k.below h.size h1 h2)

def a0 : Ar := newOf 2
def a1 : Ar := takeOf a0
def a2 : Ar := takeOf a1
def a3 : Ar := takeOf a2
def a4 : Ar := freeOf a3 1
def a5 : Ar := takeOf a4
theorem f0 : Fit 0 a0 := newOf_fit (by omega)
theorem f1 : Fit 0 a1 := takeOf_fit f0
theorem f2 : Fit 0 a2 := takeOf_fit f1
theorem f3 : Fit 0 a3 := takeOf_fit f2
theorem f4 : Fit 1 a4 := freeOf_fit f3 1
theorem f5 : Fit 1 a5 := takeOf_fit f4
theorem v0 : takeH a0 = 1 ∧ takeB a0 = true := by decide
theorem v1 : takeH a1 = 2 ∧ takeB a1 = true := by decide
theorem v2 : takeH a2 = 0 ∧ takeB a2 = false := by decide
theorem v3 : isB a3 1 = true := by decide
theorem v4 : takeH a4 = 17 ∧ takeB a4 = true := by decide
theorem v5 : isB a5 1 = false ∧ placeOf a5 17 = 0 ∧ freeOf a5 1 = a5 := by
  refine ⟨by decide, by decide, ?_⟩
  have h : ¬ hits a5 1 := by decide
  exact if_neg h

set_option maxHeartbeats 2000000 in
theorem awake_any (w : World) : Calls Try.prog 19 #[] w fun e w' => e = .returned (.bool true) ∧ Below w.heap.size w w' := by
  obtain ⟨B, hB⟩ : ∃ B, B = w.heap.size + 1 := ⟨_, rfl⟩
  obtain ⟨P, hP⟩ : ∃ P, P = w.heap.size := ⟨_, rfl⟩
  have hBl : w.heap.size ≤ B := by omega
  have hPl : w.heap.size ≤ P := by omega
  have N0 : Hid (Calls Try.prog 7 #[.int .i64 2] w fun e w' => e = .returned (.pointer (some ⟨B, 0, none⟩)) ∧ AtA w' B P a0 ∧ Below w.heap.size w w') := by rw [hB, hP]; exact new_any 2 w
  have T0 : Hid (∀ W, AtA W B P a0 → Calls Try.prog 9 #[.pointer (some ⟨B, 0, none⟩)] W fun e w' => e = .returned (.tuple #[.int .i64 1, .bool true]) ∧ Now B P a1 W w') := fun W h => by
    have := take_any B P 0 a0 (by omega) W f0 h; rw [v0.1, v0.2] at this; exact this
  have T1 : Hid (∀ W, AtA W B P a1 → Calls Try.prog 9 #[.pointer (some ⟨B, 0, none⟩)] W fun e w' => e = .returned (.tuple #[.int .i64 2, .bool true]) ∧ Now B P a2 W w') := fun W h => by
    have := take_any B P 0 a1 (by omega) W f1 h; rw [v1.1, v1.2] at this; exact this
  have T2 : Hid (∀ W, AtA W B P a2 → Calls Try.prog 9 #[.pointer (some ⟨B, 0, none⟩)] W fun e w' => e = .returned (.tuple #[.int .i64 0, .bool false]) ∧ Now B P a3 W w') := fun W h => by
    have := take_any B P 0 a2 (by omega) W f2 h; rw [v2.1, v2.2] at this; exact this
  have T3 : Hid (∀ W, AtA W B P a3 → Calls Try.prog 14 #[.pointer (some ⟨B, 0, none⟩), .int .i64 1] W fun e w' => e = .returned (.bool true) ∧ Now B P a4 W w') := fun W h => by
    have := free_any B P 0 a3 1 (by omega) (by omega) W f3 h; rw [v3] at this; exact this
  have T4 : Hid (∀ W, AtA W B P a4 → Calls Try.prog 9 #[.pointer (some ⟨B, 0, none⟩)] W fun e w' => e = .returned (.tuple #[.int .i64 17, .bool true]) ∧ Now B P a5 W w') := fun W h => by
    have := take_any B P 1 a4 (by omega) W f4 h; rw [v4.1, v4.2] at this; exact this
  have T5 : Hid (∀ W, AtA W B P a5 → Calls Try.prog 13 #[.pointer (some ⟨B, 0, none⟩), .int .i64 1] W fun e w' => e = .returned (.bool false) ∧ w' = W) := fun W h => by
    have := is_any B P 1 a5 1 (by omega) (by omega) W f5 h; rw [v5.1] at this; exact this
  have T6 : Hid (∀ W, AtA W B P a5 → Calls Try.prog 11 #[.pointer (some ⟨B, 0, none⟩), .int .i64 17] W fun e w' => e = .returned (.int .i64 0) ∧ w' = W) := fun W h => by
    have := place_any B P 1 a5 17 (by omega) (by omega) W f5 h; rw [v5.2.1] at this; exact this
  have T7 : Hid (∀ W, AtA W B P a5 → Calls Try.prog 14 #[.pointer (some ⟨B, 0, none⟩), .int .i64 1] W fun e w' => e = .returned (.bool false) ∧ Now B P a5 W w') := fun W h => by
    have := free_any B P 1 a5 1 (by omega) (by omega) W f5 h; rw [v5.1, v5.2.2] at this; exact this
  clear hB hP
  go_enter Try.func19, Try.ntmps19
  go_wp2_with fail
  refine N0.out.mono ?_
  rintro e w1 ⟨rfl, hA, hb⟩
  have HA : Hid _ := hA
  clear hA
  go_wp2_with fail
  refine (T0.out _ HA.out).mono ?_
  rintro e w2 ⟨rfl, hA, ht⟩
  replace hb := turn_next hb ht hBl hPl
  clear HA ht
  have HA : Hid _ := hA
  clear hA
  go_wp2_with fail
  refine (T1.out _ HA.out).mono ?_
  rintro e w3 ⟨rfl, hA, ht⟩
  replace hb := turn_next hb ht hBl hPl
  clear HA ht
  have HA : Hid _ := hA
  clear hA
  go_wp2_with fail
  refine (T2.out _ HA.out).mono ?_
  rintro e w4 ⟨rfl, hA, ht⟩
  replace hb := turn_next hb ht hBl hPl
  clear HA ht
  have HA : Hid _ := hA
  clear hA
  go_wp2_with fail
  refine (T3.out _ HA.out).mono ?_
  rintro e w5 ⟨rfl, hA, ht⟩
  replace hb := turn_next hb ht hBl hPl
  clear HA ht
  have HA : Hid _ := hA
  clear hA
  go_wp2_with fail
  refine (T4.out _ HA.out).mono ?_
  rintro e w6 ⟨rfl, hA, ht⟩
  replace hb := turn_next hb ht hBl hPl
  clear HA ht
  have HA : Hid _ := hA
  clear hA
  go_wp2_with fail
  refine (T5.out _ HA.out).mono ?_
  rintro e w7 ⟨rfl, hw7⟩
  subst hw7
  go_wp2_with fail
  refine (T6.out _ HA.out).mono ?_
  rintro e w8 ⟨rfl, hw8⟩
  subst hw8
  go_wp2_with fail
  refine (T7.out _ HA.out).mono ?_
  rintro e w9 ⟨rfl, hA, ht⟩
  replace hb := turn_next hb ht hBl hPl
  go_wp2
  go_ret
  exact ⟨rfl, hb⟩

set_option maxHeartbeats 400000 in
theorem take_nil (w : World) : Calls Try.prog 9 #[.pointer none] w fun e w' => e = .returned (.tuple #[.int .i64 0, .bool false]) ∧ Below w.heap.size w w' := by
  go_enter Try.func9, Try.ntmps9
  go_wp2_with fail
  go_quiet (fail)
  go_wp2
  go_ret2
  exact ⟨rfl, below_drewN _ _⟩
set_option maxHeartbeats 400000 in
theorem place_nil (h : Int) (w : World) : Calls Try.prog 11 #[.pointer none, .int .i64 h] w fun e w' => e = .returned (.int .i64 (-1)) ∧ w' = w := by
  go_enter Try.func11, Try.ntmps11
  go_wp2
  go_ret
  exact ⟨rfl, rfl⟩
set_option maxHeartbeats 400000 in
theorem is_nil (h : Int) (w : World) : Calls Try.prog 13 #[.pointer none, .int .i64 h] w fun e w' => e = .returned (.bool false) ∧ w' = w := by
  go_enter Try.func13, Try.ntmps13
  go_wp2_with (go_at_call 11; refine (place_nil h _).mono ?_; rintro e w2 ⟨rfl, hw2⟩; subst hw2)
  go_ret
  exact ⟨rfl, rfl⟩
set_option maxHeartbeats 400000 in
theorem free_nil (h : Int) (w : World) : Calls Try.prog 14 #[.pointer none, .int .i64 h] w fun e w' => e = .returned (.bool false) ∧ w' = w := by
  go_enter Try.func14, Try.ntmps14
  go_wp2_with (go_at_call 11; refine (place_nil h _).mono ?_; rintro e w2 ⟨rfl, hw2⟩; subst hw2)
  go_ret
  exact ⟨rfl, rfl⟩
set_option maxHeartbeats 400000 in
theorem live_nil (w : World) : Calls Try.prog 17 #[.pointer none] w fun e w' => e = .returned (.slice none 0 0) ∧ w' = w := by
  go_enter Try.func17, Try.ntmps17
  go_wp2
  go_ret
  exact ⟨rfl, rfl⟩

end Go.Proofs.Ytceghlmleamlgaa
