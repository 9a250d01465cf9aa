/-
  The fixed fact that each statement asks comes out true; and what none of it answers.
-/
import Derived.Test.YthadcampbchihaaBoth
namespace Go.Proofs.Ythadcampbchihaa
open Go.RowKit

set_option maxHeartbeats 400000 in
theorem start_nil (w : World) : Calls Try.prog 14 #[.pointer none] w fun e w' => e = .returned (.tuple #[.int .i64 0, .int .i64 1]) ∧ w' = w := by
  go_enter Try.func14, Try.ntmps14
  go_wp2
  go_ret2
  exact ⟨rfl, rfl⟩
set_option maxHeartbeats 400000 in
theorem word_nil (i : Int) (w : World) : Calls Try.prog 15 #[.pointer none, .int .i64 i] w fun e w' => e = .returned (.tuple #[.int .i64 0, .int .i64 1]) ∧ w' = w := by
  go_enter Try.func15, Try.ntmps15
  go_wp2
  go_ret2
  exact ⟨rfl, rfl⟩
set_option maxHeartbeats 400000 in
theorem begin_nil (t : Int) (w : World) : Calls Try.prog 17 #[.pointer none, .int .i64 t] w fun e w' => e = .returned (.int .i64 1) ∧ w' = w := by
  go_enter Try.func17, Try.ntmps17
  go_wp2
  go_ret
  exact ⟨rfl, rfl⟩
set_option maxHeartbeats 400000 in
theorem put_nil (t i v : Int) (w : World) : Calls Try.prog 18 #[.pointer none, .int .i64 t, .int .i64 i, .int .i64 v] w fun e w' => e = .returned (.int .i64 1) ∧ w' = w := by
  go_enter Try.func18, Try.ntmps18
  go_wp2
  go_ret
  exact ⟨rfl, rfl⟩
set_option maxHeartbeats 400000 in
theorem end_nil (t : Int) (w : World) : Calls Try.prog 19 #[.pointer none, .int .i64 t] w fun e w' => e = .returned (.int .i64 1) ∧ w' = w := by
  go_enter Try.func19, Try.ntmps19
  go_wp2
  go_ret
  exact ⟨rfl, rfl⟩
set_option maxHeartbeats 400000 in
theorem same_nil (q : Int) (w : World) : Calls Try.prog 16 #[.pointer none, .int .i64 q] w fun e w' => e = .returned (.int .i64 1) ∧ w' = w := by
  go_enter Try.func16, Try.ntmps16
  go_wp2
  go_ret
  exact ⟨rfl, rfl⟩
set_option maxHeartbeats 400000 in
theorem writer_nil (w : World) : Calls Try.prog 10 #[.pointer none] w fun e w' => e = .returned (.int .i64 0) ∧ w' = w := by
  go_enter Try.func10, Try.ntmps10
  go_wp2
  go_ret
  exact ⟨rfl, rfl⟩
set_option maxHeartbeats 400000 in
theorem size_nil (w : World) : Calls Try.prog 11 #[.pointer none] w fun e w' => e = .returned (.int .i64 0) ∧ w' = w := by
  go_enter Try.func11, Try.ntmps11
  go_wp2
  go_ret
  exact ⟨rfl, rfl⟩

def a0 : Ws := ws0 (cut4 2)
def a1 : Ws := begS a0 1
def a2 : Ws := putS a1 1 0 7
def a3 : Ws := endS a2 1
theorem a0_ok : Okw a0 := Okw.start (cut4_ok 2)
theorem a1_ok : Okw a1 := a0_ok.beg 1
theorem a2_ok : Okw a2 := a1_ok.put 1 0 7
theorem a3_ok : Okw a3 := a2_ok.fin 1
theorem a_facts : begE a0 1 = 0 ∧ putE a1 1 0 = 0 ∧ staN a2 = 0 ∧ staE a2 = 17 ∧ wrdN a2.l 0 = 7 ∧ wrdE a2.l 0 = 0 ∧ endE a2 1 = 0 ∧ staN a3 = 2 ∧ staE a3 = 0 ∧ samE a3 2 = 0 ∧ samE a3 0 = 17 ∧ (a3.l.length : Int) = 2 := by decide

set_option maxRecDepth 20000 in
set_option maxHeartbeats 4000000 in
theorem awake_any (w : World) : Calls Try.prog 12 #[] w fun e w' => e = .returned (.bool true) ∧ Below w.heap.size w w' := by
  obtain ⟨f1, f2, f3, f4, f5, f6, f7, f8, f9, f10, f11, f12⟩ := a_facts
  have N0 : Hid (Calls Try.prog 7 #[.int .i64 2] w fun e w' => e = .returned (.pointer (some ⟨w.heap.size, 0, none⟩)) ∧ Xs w w.heap.size none0 a0 w') := hide (x_new 2)
  have T1 : Hid (∀ M W, Xs w M none0 a0 W → Calls Try.prog 17 #[.pointer (some ⟨M, 0, none⟩), .int .i64 1] W fun e w' => e = .returned (.int .i64 0) ∧ Xs w M none0 a1 w') := fun M W h => by have := x_begin a0_ok 1 h; rw [f1] at this; exact this.mono fun _ _ k => ⟨k.1, k.2.1⟩
  have T2 : Hid (∀ M W, Xs w M none0 a1 W → Calls Try.prog 18 #[.pointer (some ⟨M, 0, none⟩), .int .i64 1, .int .i64 0, .int .i64 7] W fun e w' => e = .returned (.int .i64 0) ∧ Xs w M none0 a2 w') := fun M W h => by have := x_put a1_ok.l4 1 0 7 h; rw [f2] at this; exact this.mono fun _ _ k => ⟨k.1, k.2.1⟩
  have T3 : Hid (∀ M W, Xs w M none0 a2 W → Calls Try.prog 14 #[.pointer (some ⟨M, 0, none⟩)] W fun e w' => e = .returned (.tuple #[.int .i64 0, .int .i64 17]) ∧ w' = W) := fun M W h => by have := x_start h; rw [f3, f4] at this; exact this
  have T4 : Hid (∀ M W, Xs w M none0 a2 W → Calls Try.prog 15 #[.pointer (some ⟨M, 0, none⟩), .int .i64 0] W fun e w' => e = .returned (.tuple #[.int .i64 7, .int .i64 0]) ∧ w' = W) := fun M W h => by have := x_word a2_ok.l4 0 h; rw [f5, f6] at this; exact this
  have T5 : Hid (∀ M W, Xs w M none0 a2 W → Calls Try.prog 19 #[.pointer (some ⟨M, 0, none⟩), .int .i64 1] W fun e w' => e = .returned (.int .i64 0) ∧ Xs w M none0 a3 w') := fun M W h => by have := x_end a2_ok 1 h; rw [f7] at this; exact this.mono fun _ _ k => ⟨k.1, k.2.1⟩
  have T6 : Hid (∀ M W, Xs w M none0 a3 W → Calls Try.prog 14 #[.pointer (some ⟨M, 0, none⟩)] W fun e w' => e = .returned (.tuple #[.int .i64 2, .int .i64 0]) ∧ w' = W) := fun M W h => by have := x_start h; rw [f8, f9] at this; exact this
  have T7 : Hid (∀ M W, Xs w M none0 a3 W → Calls Try.prog 16 #[.pointer (some ⟨M, 0, none⟩), .int .i64 2] W fun e w' => e = .returned (.int .i64 0) ∧ w' = W) := fun M W h => by have := x_same 2 h; rw [f10] at this; exact this
  have T8 : Hid (∀ M W, Xs w M none0 a3 W → Calls Try.prog 16 #[.pointer (some ⟨M, 0, none⟩), .int .i64 0] W fun e w' => e = .returned (.int .i64 17) ∧ w' = W) := fun M W h => by have := x_same 0 h; rw [f11] at this; exact this
  have T9 : Hid (∀ M W, Xs w M none0 a3 W → Calls Try.prog 11 #[.pointer (some ⟨M, 0, none⟩)] W fun e w' => e = .returned (.int .i64 2) ∧ w' = W) := fun M W h => by have := x_size h; rw [f12] at this; exact this
  clear f1 f2 f3 f4 f5 f6 f7 f8 f9 f10 f11 f12
  generalize a0 = s0 at *
  generalize a1 = s1 at *
  generalize a2 = s2 at *
  generalize a3 = s3 at *
  go_enter Try.func12, Try.ntmps12
  go_wp2_with fail
  refine N0.out.mono ?_
  rintro e w1 ⟨rfl, hA⟩
  have HA := hide hA
  clear hA N0
  generalize w.heap.size = M at HA ⊢
  go_wp2_with fail
  refine (T1.out _ _ HA.out).mono ?_
  rintro e v1 ⟨rfl, hA⟩
  have HA' := hide hA
  clear hA T1 HA
  have HA := HA'
  clear HA'
  go_wp2_with fail
  refine (T2.out _ _ HA.out).mono ?_
  rintro e v2 ⟨rfl, hA⟩
  have HA' := hide hA
  clear hA T2 HA
  have HA := HA'
  clear HA'
  go_wp2_with fail
  refine (T3.out _ _ HA.out).mono ?_
  rintro e u3 ⟨rfl, hu⟩
  subst hu
  clear T3
  go_wp2_with fail
  refine (T4.out _ _ HA.out).mono ?_
  rintro e u4 ⟨rfl, hu⟩
  subst hu
  clear T4
  go_wp2_with fail
  refine (T5.out _ _ HA.out).mono ?_
  rintro e v5 ⟨rfl, hA⟩
  have HA' := hide hA
  clear hA T5 HA
  have HA := HA'
  clear HA'
  go_wp2_with fail
  refine (T6.out _ _ HA.out).mono ?_
  rintro e u6 ⟨rfl, hu⟩
  subst hu
  clear T6
  go_wp2_with fail
  refine (T7.out _ _ HA.out).mono ?_
  rintro e u7 ⟨rfl, hu⟩
  subst hu
  clear T7
  go_wp2_with fail
  refine (T8.out _ _ HA.out).mono ?_
  rintro e u8 ⟨rfl, hu⟩
  subst hu
  clear T8
  go_wp2_with fail
  refine (T9.out _ _ HA.out).mono ?_
  rintro e u9 ⟨rfl, hu⟩
  subst hu
  clear T9
  have HB := hide HA.out.2.2
  clear HA
  go_wp2
  go_ret
  exact ⟨rfl, HB.out⟩

set_option maxRecDepth 20000 in
set_option maxHeartbeats 4000000 in
theorem none_walk (t i v : Int) (w : World) : Calls Try.prog 6 #[.int .i64 t, .int .i64 i, .int .i64 v] w fun e w' => e = .returned (.bool true) ∧ Below w.heap.size w w' := by
  have HA := hide (awake_any w)
  go_enter Try.func6, Try.ntmps6
  go_wp2_with fail
  refine (start_nil _).mono ?_
  rintro e u_start ⟨rfl, hu⟩
  subst hu
  go_wp2_with fail
  refine (word_nil i _).mono ?_
  rintro e u_word ⟨rfl, hu⟩
  subst hu
  go_wp2_with fail
  refine HA.out.mono ?_
  rintro e w6 ⟨rfl, hb⟩
  clear HA
  go_wp2_with fail
  refine (begin_nil t _).mono ?_
  rintro e u_begin ⟨rfl, hu⟩
  subst hu
  go_wp2_with fail
  refine (put_nil t i v _).mono ?_
  rintro e u_put ⟨rfl, hu⟩
  subst hu
  go_wp2_with fail
  refine (end_nil t _).mono ?_
  rintro e u_end ⟨rfl, hu⟩
  subst hu
  go_wp2_with fail
  refine (same_nil v _).mono ?_
  rintro e u_same ⟨rfl, hu⟩
  subst hu
  go_wp2_with fail
  refine (writer_nil _).mono ?_
  rintro e u_writer ⟨rfl, hu⟩
  subst hu
  go_wp2_with fail
  refine (size_nil _).mono ?_
  rintro e u_size ⟨rfl, hu⟩
  subst hu
  go_wp2
  go_ret
  exact ⟨rfl, hb⟩

end Go.Proofs.Ythadcampbchihaa
