/-
  The fixed fact that each statement asks comes out true; and what none of it answers.
-/
import Derived.Test.YtgfkleaekaggoaaXs
import Derived.Test.YtgfkleaekaggoaaRefWait
namespace Go.Proofs.Ytgfkleaekaggoaa
open Go.RowKit

set_option maxHeartbeats 400000 in
theorem add_nil (n : Int) (w : World) : Calls Try.prog 13 #[.pointer none, .int .i64 n] w fun e w' => e = .returned (.tuple #[.slice none 0 0, .int .i64 1]) ∧ w' = w := by
  go_enter Try.func13, Try.ntmps13
  go_wp2
  go_ret2
  exact ⟨rfl, rfl⟩
set_option maxHeartbeats 400000 in
theorem wait_nil (t : Int) (w : World) : Calls Try.prog 11 #[.pointer none, .int .i64 t] w fun e w' => e = .returned (.int .i64 1) ∧ w' = w := by
  go_enter Try.func11, Try.ntmps11
  go_wp2
  go_ret
  exact ⟨rfl, rfl⟩
set_option maxHeartbeats 400000 in
theorem drop_nil (t : Int) (w : World) : Calls Try.prog 9 #[.pointer none, .int .i64 t] w fun e w' => e = .returned (.bool false) ∧ w' = w := by
  go_enter Try.func9, Try.ntmps9
  go_wp2
  go_ret
  exact ⟨rfl, rfl⟩
set_option maxHeartbeats 400000 in
theorem count_nil (w : World) : Calls Try.prog 16 #[.pointer none] w fun e w' => e = .returned (.int .i64 0) ∧ w' = w := by
  go_enter Try.func16, Try.ntmps16
  go_wp2
  go_ret
  exact ⟨rfl, rfl⟩
set_option maxHeartbeats 400000 in
theorem waits_nil (w : World) : Calls Try.prog 17 #[.pointer none] w fun e w' => e = .returned (.slice none 0 0) ∧ w' = w := by
  go_enter Try.func17, Try.ntmps17
  go_wp2
  go_ret
  exact ⟨rfl, rfl⟩

theorem two_new (W : World) (t u : Int) : RowZ (W.alloc (.cells #[.int .i64 t, .int .i64 u] 3)) (some ⟨W.heap.size, 0, none⟩) [t, u] := fun _ => ⟨W.heap.size, 0, rfl, by simp, fun k hk => by
  match k, hk with
  | 0, _ => exact Lib.cell_of_heap (heap_alloc_new _ _) 0
  | 1, _ => exact Lib.cell_of_heap (heap_alloc_new _ _) 1⟩
/-- A list beside one of two numbers. -/
theorem same_two (a : Option Addr) (c : Nat) (t u : Int) (w : World) (h1 : RowZ w a [t, u]) : Calls Try.prog 15 #[.slice a 2 c, .slice (some ⟨w.heap.size, 0, none⟩) 2 2] (w.alloc (.cells #[.int .i64 t, .int .i64 u] 3)) fun e w' => e = .returned (.bool true) ∧ Below w.heap.size w w' :=
  (same_ints a (some ⟨w.heap.size, 0, none⟩) c 2 [t, u] (w.alloc (.cells #[.int .i64 t, .int .i64 u] 3)) (by simp) (h1.below (below1 _ _)) (two_new w t u)).mono fun _ _ k => ⟨k.1, below_next (below1 _ _) k.2⟩

set_option maxRecDepth 20000 in
set_option maxHeartbeats 4000000 in
theorem awake_any (w : World) : Calls Try.prog 18 #[] w fun e w' => e = .returned (.bool true) ∧ Below w.heap.size w w' := by
  have N0 := hide (x_new (w := w))
  have T1 : Hid (∀ M W, Xs w M none0 0 [] W → Calls Try.prog 13 #[.pointer (some ⟨M, 0, none⟩), .int .i64 2] W fun e w' => ∃ r, e = .returned (.tuple #[r, .int .i64 0]) ∧ Xs w M none0 2 [] w' ∧ Kept none0 W w') := fun M W h => x_add0 (by decide) 2 h
  have T2 : Hid (∀ M W, Xs w M none0 2 [] W → Calls Try.prog 11 #[.pointer (some ⟨M, 0, none⟩), .int .i64 5] W fun e w' => e = .returned (.int .i64 14) ∧ Xs w M none0 2 [5] w' ∧ Kept none0 W w') := fun M W h => x_wait (by decide) 5 h
  have T3 : Hid (∀ M W, Xs w M none0 2 [5] W → Calls Try.prog 11 #[.pointer (some ⟨M, 0, none⟩), .int .i64 4] W fun e w' => e = .returned (.int .i64 14) ∧ Xs w M none0 2 [5, 4] w' ∧ Kept none0 W w') := fun M W h => x_wait (by decide) 4 h
  have T4 : Hid (∀ M W, Xs w M none0 2 [5, 4] W → Calls Try.prog 13 #[.pointer (some ⟨M, 0, none⟩), .int .i64 (-1)] W fun e w' => ∃ a d, e = .returned (.tuple #[.slice a 0 d, .int .i64 0]) ∧ Xs w M none0 1 [5, 4] w') := fun M W h => (x_add (by decide) (-1) h).mono fun _ _ ⟨a, d, k1, _, k3, _⟩ => ⟨a, d, k1, k3.mono fun _ hi => Or.inl hi⟩
  have T5 : Hid (∀ M W, Xs w M none0 1 [5, 4] W → Calls Try.prog 13 #[.pointer (some ⟨M, 0, none⟩), .int .i64 (-1)] W fun e w' => ∃ a d, e = .returned (.tuple #[.slice a 2 d, .int .i64 0]) ∧ RowF (fun k => none0 k ∨ adr [5, 4] a k) w' a [5, 4] ∧ Xs w M (fun k => none0 k ∨ adr [5, 4] a k) 0 [] w' ∧ Kept none0 W w') := fun M W h => x_add (by decide) (-1) h
  have T6 : Hid (∀ M F W, Xs w M F 0 [] W → Calls Try.prog 13 #[.pointer (some ⟨M, 0, none⟩), .int .i64 (-1)] W fun e w' => ∃ r, e = .returned (.tuple #[r, .int .i64 11]) ∧ Xs w M F 0 [] w' ∧ Kept F W w') := fun M F W h => x_add0 (by decide) (-1) h
  have T7 : Hid (∀ M F W, Xs w M F 0 [] W → Calls Try.prog 11 #[.pointer (some ⟨M, 0, none⟩), .int .i64 5] W fun e w' => e = .returned (.int .i64 0) ∧ Xs w M F 0 [] w' ∧ Kept F W w') := fun M F W h => x_wait (by decide) 5 h
  go_enter Try.func18, Try.ntmps18
  go_wp2_with fail
  refine N0.out.mono ?_
  rintro e w1 ⟨rfl, hA⟩
  have HA := hide hA
  clear hA N0
  generalize w.heap.size = M at HA ⊢
  go_wp2_with fail
  refine (T1.out _ _ HA.out).mono ?_
  rintro e w2 ⟨r2, rfl, hA, _⟩
  have HA2 := hide hA
  clear hA T1 HA
  go_wp2_with fail
  refine (T2.out _ _ HA2.out).mono ?_
  rintro e w3 ⟨rfl, hA, _⟩
  have HA3 := hide hA
  clear hA T2 HA2
  go_wp2_with fail
  refine (T3.out _ _ HA3.out).mono ?_
  rintro e w4 ⟨rfl, hA, _⟩
  have HA4 := hide hA
  clear hA T3 HA3
  go_wp2_with fail
  refine (T4.out _ _ HA4.out).mono ?_
  rintro e w5 ⟨a5, d5, rfl, hA⟩
  have HA5 := hide hA
  clear hA T4 HA4
  go_wp2_with fail
  refine (T5.out _ _ HA5.out).mono ?_
  rintro e w6 ⟨a6, d6, rfl, hr, hA, _⟩
  have HA6 := hide hA
  have HR6 := hide hr
  clear hA hr T5 HA5
  go_wp2_with fail
  refine (T6.out _ _ _ HA6.out).mono ?_
  rintro e w7 ⟨r7, rfl, hA, hk⟩
  have HA7 := hide hA
  have HR7 := hide (HR6.out.kept hk)
  clear hA hk T6 HA6 HR6
  have HI := hide (same_two a6 d6 5 4 w7 HR7.out.row)
  clear HR7
  go_wp2_with fail
  refine HI.out.mono ?_
  rintro e w8 ⟨rfl, hb8⟩
  have HA8 := hide (HA7.out.below hb8)
  clear HI HA7 hb8
  go_wp2_with fail
  refine (T7.out _ _ _ HA8.out).mono ?_
  rintro e w9 ⟨rfl, hA, _⟩
  have HB9 := hide hA.2.2
  clear hA T7 HA8
  go_wp2
  go_ret
  exact ⟨rfl, HB9.out⟩

set_option maxRecDepth 20000 in
set_option maxHeartbeats 4000000 in
theorem none_walk (t n : Int) (w : World) : Calls Try.prog 7 #[.int .i64 t, .int .i64 n] w fun e w' => e = .returned (.bool true) ∧ Below w.heap.size w w' := by
  have HA := hide (awake_any w)
  go_enter Try.func7, Try.ntmps7
  go_wp2_with fail
  refine (add_nil n _).mono ?_
  rintro e w2 ⟨rfl, hw2⟩
  subst hw2
  go_wp2_with fail
  refine HA.out.mono ?_
  rintro e w6 ⟨rfl, hb⟩
  clear HA
  go_wp2_with fail
  refine (wait_nil t _).mono ?_
  rintro e w3 ⟨rfl, hw3⟩
  subst hw3
  go_wp2_with fail
  refine (drop_nil t _).mono ?_
  rintro e w7 ⟨rfl, hw7⟩
  subst hw7
  go_wp2_with fail
  refine (count_nil _).mono ?_
  rintro e w8 ⟨rfl, hw8⟩
  subst hw8
  go_wp2_with fail
  refine (waits_nil _).mono ?_
  rintro e w10 ⟨rfl, hw10⟩
  subst hw10
  go_wp2
  go_ret
  exact ⟨rfl, hb⟩

end Go.Proofs.Ytgfkleaekaggoaa
