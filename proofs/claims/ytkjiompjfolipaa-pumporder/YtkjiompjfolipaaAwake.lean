/-
  The fixed fact that each statement asks comes out true; and what none of it answers.
-/
import Derived.Test.YtkjiompjfolipaaBoth
namespace Go.Proofs.Ytkjiompjfolipaa
open Go.RowKit

set_option maxHeartbeats 400000 in
theorem send_nil (v : Int) (w : World) : Calls Try.prog 11 #[.pointer none, .int .i64 v] w fun e w' => e = .returned (.int .i64 1) ∧ w' = w := by
  go_enter Try.func11, Try.ntmps11
  go_wp2
  go_ret
  exact ⟨rfl, rfl⟩
set_option maxHeartbeats 400000 in
theorem total_nil (w : World) : Calls Try.prog 14 #[.pointer none] w fun e w' => e = .returned (.int .i64 0) ∧ w' = w := by
  go_enter Try.func14, Try.ntmps14
  go_wp2
  go_ret
  exact ⟨rfl, rfl⟩
set_option maxHeartbeats 400000 in
theorem recv_nil (x : Int) (w : World) : Calls Try.prog 12 #[.pointer none, .int .i64 x] w fun e w' => e = .returned (.tuple #[.int .i64 0, .int .i64 0, .int .i64 0, .int .i64 1]) ∧ w' = w := by
  go_enter Try.func12, Try.ntmps12
  go_wp2
  (try simp only [Exit.inBlock, Exit.then]); refine bodyPost_ret (results_tmp4 rfl _ _ _) rfl ?_
  exact ⟨rfl, rfl⟩

def a0 : Ps := ps0 (cut8 2)
def a1 : Ps := a0.snd 7
def a2 : Ps := a1.snd 8
def a3 : Ps := a2.snd 9
theorem a_ok : Okp a0 ∧ Okp a1 ∧ Okp a2 ∧ Okp a3 := ⟨cut8_ok 2, cut8_ok 2, cut8_ok 2, cut8_ok 2⟩
theorem a_len : a0.l.length ≤ 1000 ∧ a1.l.length ≤ 1000 ∧ a2.l.length ≤ 1000 ∧ a3.l.length ≤ 1000 := by decide
theorem a_facts : (rcvV a3 0 = 8 ∧ rcvL a3 0 = 1 ∧ rcvA a3 0 = 2 ∧ rcvE a3 0 = 0) ∧ (rcvV a3 2 = 9 ∧ rcvL a3 2 = 0 ∧ rcvA a3 2 = 3 ∧ rcvE a3 2 = 0) ∧ (rcvV a3 3 = 0 ∧ rcvL a3 3 = 0 ∧ rcvA a3 3 = 3 ∧ rcvE a3 3 = 18) ∧ (a3.l.length : Int) = 3 := by decide

set_option maxRecDepth 20000 in
set_option maxHeartbeats 4000000 in
theorem awake_any (w : World) : Calls Try.prog 15 #[] w fun e w' => e = .returned (.bool true) ∧ Below w.heap.size w w' := by
  obtain ⟨⟨f1, f2, f3, f4⟩, ⟨g1, g2, g3, g4⟩, ⟨h1, h2, h3, h4⟩, hn⟩ := a_facts
  have N0 : Hid (Calls Try.prog 8 #[.int .i64 2] w fun e w' => e = .returned (.pointer (some ⟨w.heap.size, 0, none⟩)) ∧ Xs w w.heap.size none0 a0 w') := hide (x_new 2)
  have T1 : Hid (∀ M W, Xs w M none0 a0 W → Calls Try.prog 11 #[.pointer (some ⟨M, 0, none⟩), .int .i64 7] W fun e w' => e = .returned (.int .i64 0) ∧ Xs w M none0 a1 w') := fun M W h => (x_send a_ok.1 a_len.1 7 h).mono fun _ _ k => ⟨k.1, k.2.1⟩
  have T2 : Hid (∀ M W, Xs w M none0 a1 W → Calls Try.prog 11 #[.pointer (some ⟨M, 0, none⟩), .int .i64 8] W fun e w' => e = .returned (.int .i64 0) ∧ Xs w M none0 a2 w') := fun M W h => (x_send a_ok.2.1 a_len.2.1 8 h).mono fun _ _ k => ⟨k.1, k.2.1⟩
  have T3 : Hid (∀ M W, Xs w M none0 a2 W → Calls Try.prog 11 #[.pointer (some ⟨M, 0, none⟩), .int .i64 9] W fun e w' => e = .returned (.int .i64 0) ∧ Xs w M none0 a3 w') := fun M W h => (x_send a_ok.2.2.1 a_len.2.2.1 9 h).mono fun _ _ k => ⟨k.1, k.2.1⟩
  have T4 : Hid (∀ M W, Xs w M none0 a3 W → Calls Try.prog 12 #[.pointer (some ⟨M, 0, none⟩), .int .i64 0] W fun e w' => e = .returned (.tuple #[.int .i64 8, .int .i64 1, .int .i64 2, .int .i64 0]) ∧ Xs w M none0 a3 w') := fun M W h => by have := x_recv a_ok.2.2.2 a_len.2.2.2 0 h; rw [f1, f2, f3, f4] at this; exact this.mono fun _ _ k => ⟨k.1, k.2.1⟩
  have T5 : Hid (∀ M W, Xs w M none0 a3 W → Calls Try.prog 12 #[.pointer (some ⟨M, 0, none⟩), .int .i64 2] W fun e w' => e = .returned (.tuple #[.int .i64 9, .int .i64 0, .int .i64 3, .int .i64 0]) ∧ Xs w M none0 a3 w') := fun M W h => by have := x_recv a_ok.2.2.2 a_len.2.2.2 2 h; rw [g1, g2, g3, g4] at this; exact this.mono fun _ _ k => ⟨k.1, k.2.1⟩
  have T6 : Hid (∀ M W, Xs w M none0 a3 W → Calls Try.prog 12 #[.pointer (some ⟨M, 0, none⟩), .int .i64 3] W fun e w' => e = .returned (.tuple #[.int .i64 0, .int .i64 0, .int .i64 3, .int .i64 18]) ∧ Xs w M none0 a3 w') := fun M W h => by have := x_recv a_ok.2.2.2 a_len.2.2.2 3 h; rw [h1, h2, h3, h4] at this; exact this.mono fun _ _ k => ⟨k.1, k.2.1⟩
  have T7 : Hid (∀ M W, Xs w M none0 a3 W → Calls Try.prog 14 #[.pointer (some ⟨M, 0, none⟩)] W fun e w' => e = .returned (.int .i64 3) ∧ w' = W) := fun M W h => by have := x_total h; rw [hn] at this; exact this
  clear f1 f2 f3 f4 g1 g2 g3 g4 h1 h2 h3 h4 hn
  generalize a0 = s0 at *
  generalize a1 = s1 at *
  generalize a2 = s2 at *
  generalize a3 = s3 at *
  go_enter Try.func15, Try.ntmps15
  go_wp2_with fail
  refine N0.out.mono ?_
  rintro e w1 ⟨rfl, hA⟩
  have HA := hide hA
  clear hA N0
  generalize w.heap.size = M at HA ⊢
  go_wp2_with fail
  refine (T1.out _ _ HA.out).mono ?_
  rintro e v1 ⟨rfl, hA⟩
  have HA' := hide hA
  clear hA T1 HA
  have HA := HA'
  clear HA'
  go_wp2_with fail
  refine (T2.out _ _ HA.out).mono ?_
  rintro e v2 ⟨rfl, hA⟩
  have HA' := hide hA
  clear hA T2 HA
  have HA := HA'
  clear HA'
  go_wp2_with fail
  refine (T3.out _ _ HA.out).mono ?_
  rintro e v3 ⟨rfl, hA⟩
  have HA' := hide hA
  clear hA T3 HA
  have HA := HA'
  clear HA'
  go_wp2_with fail
  refine (T4.out _ _ HA.out).mono ?_
  rintro e v4 ⟨rfl, hA⟩
  have HA' := hide hA
  clear hA T4 HA
  have HA := HA'
  clear HA'
  go_wp2_with fail
  refine (T5.out _ _ HA.out).mono ?_
  rintro e v5 ⟨rfl, hA⟩
  have HA' := hide hA
  clear hA T5 HA
  have HA := HA'
  clear HA'
  go_wp2_with fail
  refine (T6.out _ _ HA.out).mono ?_
  rintro e v6 ⟨rfl, hA⟩
  have HA' := hide hA
  clear hA T6 HA
  have HA := HA'
  clear HA'
  go_wp2_with fail
  refine (T7.out _ _ HA.out).mono ?_
  rintro e u9 ⟨rfl, hu⟩
  subst hu
  clear T7
  have HB := hide HA.out.2.2
  clear HA
  go_wp2
  go_ret
  exact ⟨rfl, HB.out⟩

set_option maxRecDepth 20000 in
set_option maxHeartbeats 4000000 in
theorem none_walk (v : Int) (w : World) : Calls Try.prog 7 #[.int .i64 v] w fun e w' => e = .returned (.bool true) ∧ Below w.heap.size w w' := by
  have HA := hide (awake_any w)
  go_enter Try.func7, Try.ntmps7
  go_wp2_with fail
  refine (recv_nil v _).mono ?_
  rintro e u_recv ⟨rfl, hu⟩
  subst hu
  go_wp2_with fail
  refine HA.out.mono ?_
  rintro e w6 ⟨rfl, hb⟩
  clear HA
  go_wp2_with fail
  refine (send_nil v _).mono ?_
  rintro e u_send ⟨rfl, hu⟩
  subst hu
  go_wp2_with fail
  refine (total_nil _).mono ?_
  rintro e u_total ⟨rfl, hu⟩
  subst hu
  go_wp2
  go_ret
  exact ⟨rfl, hb⟩

end Go.Proofs.Ytkjiompjfolipaa
