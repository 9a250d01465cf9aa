/-
  The fixed fact that each statement asks comes out true; and what no units answer.
-/
import Derived.Test.YtgldhlcdnijecaaXs
namespace Go.Proofs.Ytgldhlcdnijecaa
open Go.RowKit

set_option maxHeartbeats 400000 in
theorem size_nil (w : World) : Calls Try.prog 12 #[.pointer none] w fun e w' => e = .returned (.int .i64 0) ∧ w' = w := by
  go_enter Try.func12, Try.ntmps12
  go_wp2
  go_ret
  exact ⟨rfl, rfl⟩
set_option maxHeartbeats 400000 in
theorem free_nil (w : World) : Calls Try.prog 11 #[.pointer none] w fun e w' => e = .returned (.int .i64 0) ∧ w' = w := by
  go_enter Try.func11, Try.ntmps11
  go_wp2
  go_ret
  exact ⟨rfl, rfl⟩
set_option maxHeartbeats 400000 in
theorem waits_nil (w : World) : Calls Try.prog 14 #[.pointer none] w fun e w' => e = .returned (.slice none 0 0) ∧ w' = w := by
  go_enter Try.func14, Try.ntmps14
  go_wp2
  go_ret
  exact ⟨rfl, rfl⟩
theorem may_nil (n : Int) (w : World) : Calls Try.prog 26 #[.pointer none, .int .i64 n] w fun e w' => e = .returned (.bool false) ∧ w' = w := by
  have := may_of (.pointer none) 0 n w (size_nil w)
  rw [decide_eq_false (by omega)] at this
  exact this
set_option maxHeartbeats 400000 in
theorem try_nil (t n : Int) (w : World) : Calls Try.prog 19 #[.pointer none, .int .i64 t, .int .i64 n] w fun e w' => e = .returned (.int .i64 1) ∧ w' = w := by
  by_cases h : t < 1
  · go_enter Try.func19, Try.ntmps19
    go_wp2
    go_ret
    exact ⟨rfl, rfl⟩
  · go_enter Try.func19, Try.ntmps19
    go_wp2_with fail
    refine (may_nil n _).mono ?_
    rintro e w2 ⟨rfl, hw2⟩
    subst hw2
    go_wp2
    go_ret
    exact ⟨rfl, rfl⟩
set_option maxHeartbeats 400000 in
theorem acq_nil (t n : Int) (w : World) : Calls Try.prog 18 #[.pointer none, .int .i64 t, .int .i64 n] w fun e w' => e = .returned (.int .i64 1) ∧ w' = w := by
  go_enter Try.func18, Try.ntmps18
  go_wp2_with fail
  refine (try_nil t n _).mono ?_
  rintro e w2 ⟨rfl, hw2⟩
  subst hw2
  go_wp2
  go_ret
  exact ⟨rfl, rfl⟩
set_option maxHeartbeats 400000 in
theorem rel_nil (n : Int) (w : World) : Calls Try.prog 17 #[.pointer none, .int .i64 n] w fun e w' => e = .returned (.tuple #[.slice none 0 0, .int .i64 1]) ∧ w' = w := by
  go_enter Try.func17, Try.ntmps17
  go_wp2_with fail
  refine (may_nil n _).mono ?_
  rintro e w2 ⟨rfl, hw2⟩
  subst hw2
  go_wp2
  go_ret2
  exact ⟨rfl, rfl⟩
set_option maxHeartbeats 400000 in
theorem drop_nil (t : Int) (w : World) : Calls Try.prog 16 #[.pointer none, .int .i64 t] w fun e w' => e = .returned (.tuple #[.slice none 0 0, .bool false]) ∧ w' = w := by
  go_enter Try.func16, Try.ntmps16
  go_wp2
  go_ret2
  exact ⟨rfl, rfl⟩

theorem one_new (W : World) (t : Int) : RowZ (W.alloc (.cells #[.int .i64 t] 3)) (some ⟨W.heap.size, 0, none⟩) [t] := one_z (by simp) (Lib.cell_of_heap (heap_alloc_new _ _) 0)
/-- A list beside one of one number. -/
theorem same_one (a : Option Addr) (c : Nat) (t : Int) (w : World) (h1 : RowZ w a [t]) : Calls Try.prog 13 #[.slice a 1 c, .slice (some ⟨w.heap.size, 0, none⟩) 1 1] (w.alloc (.cells #[.int .i64 t] 3)) fun e w' => e = .returned (.bool true) ∧ Below w.heap.size w w' :=
  (same_ints a (some ⟨w.heap.size, 0, none⟩) c 1 [t] (w.alloc (.cells #[.int .i64 t] 3)) (by simp) (h1.below (below1 _ _)) (one_new w t)).mono fun _ _ k => ⟨k.1, below_next (below1 _ _) k.2⟩

def sA1 : Sm := ⟨3, 1, []⟩
def sA2 : Sm := ⟨3, 1, [⟨2, 2⟩]⟩
def sA3 : Sm := ⟨3, 1, [⟨2, 2⟩, ⟨3, 1⟩]⟩
def sA4 : Sm := ⟨3, 0, [⟨3, 1⟩]⟩
def sA5 : Sm := ⟨3, 1, []⟩
theorem ok_of {s : Sm} (h : (1 ≤ s.n ∧ s.n ≤ 16) ∧ (0 ≤ s.f ∧ s.f ≤ s.n) ∧ ∀ x ∈ s.q, 1 ≤ x.u ∧ x.u ≤ s.n) : Okw s := ⟨h.1.1, h.1.2, h.2.1.1, h.2.1.2, h.2.2⟩

set_option maxRecDepth 20000 in
set_option maxHeartbeats 4000000 in
theorem awake_any (w : World) : Calls Try.prog 15 #[] w fun e w' => e = .returned (.bool true) ∧ Below w.heap.size w w' := by
  have N0 := hide (x_new (w := w) 3)
  have o1 : Okw sA1 := ok_of ⟨by decide, by decide, fun x hx => by simp [sA1] at hx⟩
  have o2 : Okw sA2 := ok_of ⟨by decide, by decide, fun x hx => by simp [sA2] at hx; subst hx; decide⟩
  have o3 : Okw sA3 := ok_of ⟨by decide, by decide, fun x hx => by simp [sA3] at hx; rcases hx with rfl | rfl <;> decide⟩
  have o4 : Okw sA4 := ok_of ⟨by decide, by decide, fun x hx => by simp [sA4] at hx; subst hx; decide⟩
  have T1 : Hid (∀ M W, Xs w M none0 (newS 3) W → Calls Try.prog 18 #[.pointer (some ⟨M, 0, none⟩), .int .i64 1, .int .i64 2] W fun e w' => e = .returned (.int .i64 0) ∧ Xs w M none0 sA1 w' ∧ Kept none0 W w') := fun M W h => x_acq (new_ok 3) (by decide) 1 2 h
  have T2 : Hid (∀ M W, Xs w M none0 sA1 W → Calls Try.prog 18 #[.pointer (some ⟨M, 0, none⟩), .int .i64 2, .int .i64 2] W fun e w' => e = .returned (.int .i64 14) ∧ Xs w M none0 sA2 w' ∧ Kept none0 W w') := fun M W h => x_acq o1 (by decide) 2 2 h
  have T3 : Hid (∀ M W, Xs w M none0 sA2 W → Calls Try.prog 18 #[.pointer (some ⟨M, 0, none⟩), .int .i64 3, .int .i64 1] W fun e w' => e = .returned (.int .i64 14) ∧ Xs w M none0 sA3 w' ∧ Kept none0 W w') := fun M W h => x_acq o2 (by decide) 3 1 h
  have T4 : Hid (∀ M W, Xs w M none0 sA3 W → Calls Try.prog 17 #[.pointer (some ⟨M, 0, none⟩), .int .i64 1] W fun e w' => ∃ a c, e = .returned (.tuple #[.slice a 1 c, .int .i64 0]) ∧ RowF (fun k => none0 k ∨ adr [2] a k) w' a [2] ∧ Xs w M (fun k => none0 k ∨ adr [2] a k) sA4 w' ∧ Kept none0 W w') := fun M W h => x_rel o3 (by decide) 1 h
  have T5 : Hid (∀ M F W, Xs w M F sA4 W → Calls Try.prog 17 #[.pointer (some ⟨M, 0, none⟩), .int .i64 2] W fun e w' => ∃ a c, e = .returned (.tuple #[.slice a 1 c, .int .i64 0]) ∧ RowF (fun k => F k ∨ adr [3] a k) w' a [3] ∧ Xs w M (fun k => F k ∨ adr [3] a k) sA5 w' ∧ Kept F W w') := fun M F W h => x_rel o4 (by decide) 2 h
  have T6 : Hid (∀ M F W, Xs w M F sA5 W → Calls Try.prog 11 #[.pointer (some ⟨M, 0, none⟩)] W fun e w' => e = .returned (.int .i64 1) ∧ w' = W) := fun M F W h => x_free h
  have T7 : Hid (∀ M F W, Xs w M F sA5 W → Calls Try.prog 18 #[.pointer (some ⟨M, 0, none⟩), .int .i64 1, .int .i64 4] W fun e w' => e = .returned (.int .i64 1) ∧ Xs w M F sA5 w' ∧ Kept F W w') := fun M F W h => x_acq o1 (by decide) 1 4 h
  clear o1 o2 o3 o4
  go_enter Try.func15, Try.ntmps15
  go_wp2_with fail
  refine N0.out.mono ?_
  rintro e w1 ⟨rfl, hA⟩
  have HA := hide hA
  clear hA N0
  generalize w.heap.size = M at HA ⊢
  go_wp2_with fail
  refine (T1.out _ _ HA.out).mono ?_
  rintro e w2 ⟨rfl, hA, _⟩
  have HA2 := hide hA
  clear hA T1 HA
  go_wp2_with fail
  refine (T2.out _ _ HA2.out).mono ?_
  rintro e w3 ⟨rfl, hA, _⟩
  have HA3 := hide hA
  clear hA T2 HA2
  go_wp2_with fail
  refine (T3.out _ _ HA3.out).mono ?_
  rintro e w4 ⟨rfl, hA, _⟩
  have HA4 := hide hA
  clear hA T3 HA3
  go_wp2_with fail
  refine (T4.out _ _ HA4.out).mono ?_
  rintro e w5 ⟨a5, c5, rfl, hr, hA, _⟩
  have HA5 := hide hA
  have HR5 := hide hr
  clear hA hr T4 HA4
  go_wp2_with fail
  refine (T5.out _ _ _ HA5.out).mono ?_
  rintro e w6 ⟨a6, c6, rfl, hr, hA, hk⟩
  have HA6 := hide hA
  have HR6 := hide hr
  have HR5' := hide (HR5.out.kept hk)
  clear hA hr T5 HA5 HR5 hk
  have HI := hide (same_one a5 c5 2 w6 HR5'.out.row)
  have HZ6 := hide HR6.out.row
  clear HR5' HR6
  go_wp2_with fail
  refine HI.out.mono ?_
  rintro e w7 ⟨rfl, hb7⟩
  have HA7 := hide (HA6.out.below hb7)
  have HI7 := hide (same_one a6 c6 3 w7 (HZ6.out.below hb7))
  clear HI HZ6 HA6 hb7
  go_wp2_with fail
  refine HI7.out.mono ?_
  rintro e w8 ⟨rfl, hb8⟩
  have HA8 := hide (HA7.out.below hb8)
  clear HI7 HA7 hb8
  go_wp2_with fail
  refine (T6.out _ _ _ HA8.out).mono ?_
  rintro e w9 ⟨rfl, hw9⟩
  subst hw9
  go_wp2_with fail
  refine (T7.out _ _ _ HA8.out).mono ?_
  rintro e w10 ⟨rfl, hA, _⟩
  have HB10 := hide hA.2.2
  clear T6 T7 HA8 hA
  go_wp2
  go_ret
  exact ⟨rfl, HB10.out⟩

set_option maxRecDepth 20000 in
set_option maxHeartbeats 4000000 in
theorem none_walk (t n : Int) (w : World) : Calls Try.prog 7 #[.int .i64 t, .int .i64 n] w fun e w' => e = .returned (.bool true) ∧ Below w.heap.size w w' := by
  have HA := hide (awake_any w)
  go_enter Try.func7, Try.ntmps7
  go_wp2_with fail
  refine (rel_nil n _).mono ?_
  rintro e w2 ⟨rfl, hw2⟩
  subst hw2
  go_wp2_with fail
  refine (drop_nil t _).mono ?_
  rintro e w4 ⟨rfl, hw4⟩
  subst hw4
  go_wp2_with fail
  refine HA.out.mono ?_
  rintro e w6 ⟨rfl, hb⟩
  clear HA
  go_wp2_with fail
  refine (acq_nil t n _).mono ?_
  rintro e w7 ⟨rfl, hw7⟩
  subst hw7
  go_wp2_with fail
  refine (try_nil t n _).mono ?_
  rintro e w8 ⟨rfl, hw8⟩
  subst hw8
  go_wp2_with fail
  refine (free_nil _).mono ?_
  rintro e w9 ⟨rfl, hw9⟩
  subst hw9
  go_wp2_with fail
  refine (size_nil _).mono ?_
  rintro e w10 ⟨rfl, hw10⟩
  subst hw10
  go_wp2_with fail
  refine (waits_nil _).mono ?_
  rintro e w11 ⟨rfl, hw11⟩
  subst hw11
  go_wp2
  go_ret
  exact ⟨rfl, hb⟩

end Go.Proofs.Ytgldhlcdnijecaa
