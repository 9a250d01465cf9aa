/-
  The fixed fact that each statement asks comes out true; and what none of it answers.
-/
import Derived.Test.YtggfndokmdpaeaaXs
namespace Go.Proofs.Ytggfndokmdpaeaa
open Go.RowKit

set_option maxHeartbeats 400000 in
theorem wrong_nil (t : Int) (w : World) : Calls Try.prog 29 #[.pointer none, .int .i64 t] w fun e w' => e = .returned (.int .i64 1) ∧ w' = w := by
  go_enter Try.func29, Try.ntmps29
  go_wp2
  go_ret
  exact ⟨rfl, rfl⟩
set_option maxHeartbeats 400000 in
theorem tryR_nil (t : Int) (w : World) : Calls Try.prog 17 #[.pointer none, .int .i64 t] w fun e w' => e = .returned (.int .i64 1) ∧ w' = w := by
  go_enter Try.func17, Try.ntmps17
  go_wp2_with fail
  refine (wrong_nil t _).mono ?_
  rintro e w2 ⟨rfl, hw2⟩
  subst hw2
  go_wp2
  go_ret
  exact ⟨rfl, rfl⟩
set_option maxHeartbeats 400000 in
theorem try_nil (t : Int) (w : World) : Calls Try.prog 22 #[.pointer none, .int .i64 t] w fun e w' => e = .returned (.int .i64 1) ∧ w' = w := by
  go_enter Try.func22, Try.ntmps22
  go_wp2_with fail
  refine (wrong_nil t _).mono ?_
  rintro e w2 ⟨rfl, hw2⟩
  subst hw2
  go_wp2
  go_ret
  exact ⟨rfl, rfl⟩
set_option maxHeartbeats 400000 in
theorem rlock_nil (t : Int) (w : World) : Calls Try.prog 16 #[.pointer none, .int .i64 t] w fun e w' => e = .returned (.int .i64 1) ∧ w' = w := by
  go_enter Try.func16, Try.ntmps16
  go_wp2_with fail
  refine (tryR_nil t _).mono ?_
  rintro e w2 ⟨rfl, hw2⟩
  subst hw2
  go_wp2
  go_ret
  exact ⟨rfl, rfl⟩
set_option maxHeartbeats 400000 in
theorem lock_nil (t : Int) (w : World) : Calls Try.prog 15 #[.pointer none, .int .i64 t] w fun e w' => e = .returned (.int .i64 1) ∧ w' = w := by
  go_enter Try.func15, Try.ntmps15
  go_wp2_with fail
  refine (try_nil t _).mono ?_
  rintro e w2 ⟨rfl, hw2⟩
  subst hw2
  go_wp2
  go_ret
  exact ⟨rfl, rfl⟩
set_option maxHeartbeats 400000 in
theorem runlock_nil (t : Int) (w : World) : Calls Try.prog 18 #[.pointer none, .int .i64 t] w fun e w' => e = .returned (.tuple #[.slice none 0 0, .int .i64 1]) ∧ w' = w := by
  go_enter Try.func18, Try.ntmps18
  go_wp2
  go_ret2
  exact ⟨rfl, rfl⟩
set_option maxHeartbeats 400000 in
theorem unlock_nil (t : Int) (w : World) : Calls Try.prog 19 #[.pointer none, .int .i64 t] w fun e w' => e = .returned (.tuple #[.slice none 0 0, .int .i64 1]) ∧ w' = w := by
  go_enter Try.func19, Try.ntmps19
  go_wp2
  go_ret2
  exact ⟨rfl, rfl⟩
set_option maxHeartbeats 400000 in
theorem drop_nil (t : Int) (w : World) : Calls Try.prog 21 #[.pointer none, .int .i64 t] w fun e w' => e = .returned (.tuple #[.slice none 0 0, .bool false]) ∧ w' = w := by
  go_enter Try.func21, Try.ntmps21
  go_wp2
  go_ret2
  exact ⟨rfl, rfl⟩
set_option maxHeartbeats 400000 in
theorem waits_nil (w : World) : Calls Try.prog 12 #[.pointer none] w fun e w' => e = .returned (.tuple #[.slice none 0 0, .slice none 0 0]) ∧ w' = w := by
  go_enter Try.func12, Try.ntmps12
  go_wp2
  go_ret2
  exact ⟨rfl, rfl⟩
set_option maxHeartbeats 400000 in
theorem writer_nil (w : World) : Calls Try.prog 14 #[.pointer none] w fun e w' => e = .returned (.int .i64 0) ∧ w' = w := by
  go_enter Try.func14, Try.ntmps14
  go_wp2
  go_ret
  exact ⟨rfl, rfl⟩
set_option maxHeartbeats 400000 in
theorem readers_nil (w : World) : Calls Try.prog 13 #[.pointer none] w fun e w' => e = .returned (.slice none 0 0) ∧ w' = w := by
  go_enter Try.func13, Try.ntmps13
  go_wp2
  go_ret
  exact ⟨rfl, rfl⟩

theorem nds_of {s : St} (h : s.rs.Nodup ∧ s.tw.Nodup ∧ s.tr.Nodup) : Nds s := ⟨h.1, h.2.1, h.2.2⟩
theorem one_z {W : World} {g : Nat} {t : Int} (hg : g < W.heap.size) (h : W.cell? ⟨g, 0, none⟩ = some (.int .i64 t)) : RowZ W (some ⟨g, 0, none⟩) [t] := fun _ => ⟨g, 0, rfl, hg, fun k hk => by
  obtain rfl : k = 0 := by simp at hk; omega
  exact h⟩
theorem one_new (W : World) (t : Int) : RowZ (W.alloc (.cells #[.int .i64 t] 3)) (some ⟨W.heap.size, 0, none⟩) [t] := one_z (by simp) (Lib.cell_of_heap (heap_alloc_new _ _) 0)
/-- A list beside one of one number. -/
theorem same_one (a : Option Addr) (c : Nat) (t : Int) (w : World) (h1 : RowZ w a [t]) : Calls Try.prog 20 #[.slice a 1 c, .slice (some ⟨w.heap.size, 0, none⟩) 1 1] (w.alloc (.cells #[.int .i64 t] 3)) fun e w' => e = .returned (.bool true) ∧ Below w.heap.size w w' :=
  (same_ints a (some ⟨w.heap.size, 0, none⟩) c 1 [t] (w.alloc (.cells #[.int .i64 t] 3)) (by simp) (h1.below (below1 _ _)) (one_new w t)).mono fun _ _ k => ⟨k.1, below_next (below1 _ _) k.2⟩

def sA1 : St := ⟨0, [1], [], []⟩
def sA2 : St := ⟨0, [1], [2], []⟩
def sA3 : St := ⟨0, [1], [2], [3]⟩
def sA4 : St := ⟨2, [], [], [3]⟩
def sA5 : St := ⟨0, [3], [], []⟩

set_option maxRecDepth 20000 in
set_option maxHeartbeats 4000000 in
theorem awake_any (w : World) : Calls Try.prog 11 #[] w fun e w' => e = .returned (.bool true) ∧ Below w.heap.size w w' := by
  have N0 := hide (x_new (w := w))
  have T1 : Hid (∀ M W, Xs w M (fun _ => False) St.nil W → Calls Try.prog 16 #[.pointer (some ⟨M, 0, none⟩), .int .i64 1] W fun e w' => e = .returned (.int .i64 0) ∧ Xs w M (fun _ => False) sA1 w' ∧ Kept (fun _ => False) W w') := fun M W h =>
    x_rlock (by decide) 1 h
  have T2 : Hid (∀ M W, Xs w M (fun _ => False) sA1 W → Calls Try.prog 15 #[.pointer (some ⟨M, 0, none⟩), .int .i64 2] W fun e w' => e = .returned (.int .i64 14) ∧ Xs w M (fun _ => False) sA2 w' ∧ Kept (fun _ => False) W w') := fun M W h =>
    x_lock (by decide) 2 h
  have T3 : Hid (∀ M W, Xs w M (fun _ => False) sA2 W → Calls Try.prog 16 #[.pointer (some ⟨M, 0, none⟩), .int .i64 3] W fun e w' => e = .returned (.int .i64 14) ∧ Xs w M (fun _ => False) sA3 w' ∧ Kept (fun _ => False) W w') := fun M W h =>
    x_rlock (by decide) 3 h
  have T4 : Hid (∀ M W, Xs w M (fun _ => False) sA3 W → Calls Try.prog 18 #[.pointer (some ⟨M, 0, none⟩), .int .i64 1] W fun e w' => ∃ a c, e = .returned (.tuple #[.slice a 1 c, .int .i64 0]) ∧ RowF (fun k => False ∨ adr [2] a k) w' a [2] ∧ Xs w M (fun k => False ∨ adr [2] a k) sA4 w' ∧ Kept (fun _ => False) W w') := fun M W h =>
    x_runlock (by decide) (nds_of (by decide)) 1 h
  have T5 : Hid (∀ M F W, Xs w M F sA4 W → Calls Try.prog 19 #[.pointer (some ⟨M, 0, none⟩), .int .i64 2] W fun e w' => ∃ a c, e = .returned (.tuple #[.slice a 1 c, .int .i64 0]) ∧ RowF (fun k => F k ∨ adr [3] a k) w' a [3] ∧ Xs w M (fun k => F k ∨ adr [3] a k) sA5 w' ∧ Kept F W w') := fun M F W h =>
    x_unlock (by decide) (nds_of (by decide)) 2 h
  have T6 : Hid (∀ M F W, Xs w M F sA5 W → Calls Try.prog 14 #[.pointer (some ⟨M, 0, none⟩)] W fun e w' => e = .returned (.int .i64 0) ∧ w' = W) := fun M F W h => x_writer h
  have T7 : Hid (∀ M F W, Xs w M F sA5 W → Calls Try.prog 13 #[.pointer (some ⟨M, 0, none⟩)] W fun e w' => ∃ a c, e = .returned (.slice a 1 c) ∧ RowZ w' a [3] ∧ Xs w M F sA5 w' ∧ Kept F W w') := fun M F W h => x_readers (by decide) h
  go_enter Try.func11, Try.ntmps11
  go_wp2_with fail
  refine N0.out.mono ?_
  rintro e w1 ⟨rfl, hA⟩
  have HA := hide hA
  clear hA N0
  generalize w.heap.size = M at HA ⊢
  go_wp2_with fail
  refine (T1.out _ _ HA.out).mono ?_
  rintro e w2 ⟨rfl, hA, _⟩
  have HA2 := hide hA
  clear hA T1 HA
  go_wp2_with fail
  refine (T2.out _ _ HA2.out).mono ?_
  rintro e w3 ⟨rfl, hA, _⟩
  have HA3 := hide hA
  clear hA T2 HA2
  go_wp2_with fail
  refine (T3.out _ _ HA3.out).mono ?_
  rintro e w4 ⟨rfl, hA, _⟩
  have HA4 := hide hA
  clear hA T3 HA3
  go_wp2_with fail
  refine (T4.out _ _ HA4.out).mono ?_
  rintro e w5 ⟨a5, c5, rfl, hr, hA, _⟩
  have HA5 := hide hA
  have HR5 := hide hr
  clear hA hr T4 HA4
  go_wp2_with fail
  refine (T5.out _ _ _ HA5.out).mono ?_
  rintro e w6 ⟨a6, c6, rfl, hr, hA, hk⟩
  have HA6 := hide hA
  have HR6 := hide hr
  have HR5' := hide (HR5.out.kept hk)
  clear hA hr T5 HA5 HR5 hk
  have HI := hide (same_one a5 c5 2 w6 HR5'.out.row)
  have HZ6 := hide HR6.out.row
  clear HR5' HR6
  go_wp2_with fail
  refine HI.out.mono ?_
  rintro e w7 ⟨rfl, hb7⟩
  have HA7 := hide (HA6.out.below hb7)
  have HI7 := hide (same_one a6 c6 3 w7 (HZ6.out.below hb7))
  clear HI HZ6 HA6 hb7
  go_wp2_with fail
  refine HI7.out.mono ?_
  rintro e w8 ⟨rfl, hb8⟩
  have HA8 := hide (HA7.out.below hb8)
  clear HI7 HA7 hb8
  go_wp2_with fail
  refine (T6.out _ _ _ HA8.out).mono ?_
  rintro e w9 ⟨rfl, hw9⟩
  subst hw9
  go_wp2_with fail
  refine (T7.out _ _ _ HA8.out).mono ?_
  rintro e w10 ⟨a10, c10, rfl, hz10, hA, _⟩
  have HI10 := hide (same_one a10 c10 3 w10 hz10)
  have HB10 := hide hA.2.2
  clear T6 T7 HA8 hA hz10
  go_wp2_with fail
  refine HI10.out.mono ?_
  rintro e w11 ⟨rfl, hb11⟩
  have HB11 := hide (below_next HB10.out hb11)
  clear HB10 hb11 HI10
  go_wp2
  go_ret
  exact ⟨rfl, HB11.out⟩

set_option maxRecDepth 20000 in
set_option maxHeartbeats 4000000 in
theorem none_walk (t : Int) (w : World) : Calls Try.prog 7 #[.int .i64 t] w fun e w' => e = .returned (.bool true) ∧ Below w.heap.size w w' := by
  have HA := hide (awake_any w)
  go_enter Try.func7, Try.ntmps7
  go_wp2_with fail
  refine (runlock_nil t _).mono ?_
  rintro e w2 ⟨rfl, hw2⟩
  subst hw2
  go_wp2_with fail
  refine (unlock_nil t _).mono ?_
  rintro e w3 ⟨rfl, hw3⟩
  subst hw3
  go_wp2_with fail
  refine (drop_nil t _).mono ?_
  rintro e w4 ⟨rfl, hw4⟩
  subst hw4
  go_wp2_with fail
  refine (waits_nil _).mono ?_
  rintro e w5 ⟨rfl, hw5⟩
  subst hw5
  go_wp2_with fail
  refine HA.out.mono ?_
  rintro e w6 ⟨rfl, hb⟩
  clear HA
  go_wp2_with fail
  refine (rlock_nil t _).mono ?_
  rintro e w7 ⟨rfl, hw7⟩
  subst hw7
  go_wp2_with fail
  refine (tryR_nil t _).mono ?_
  rintro e w8 ⟨rfl, hw8⟩
  subst hw8
  go_wp2_with fail
  refine (lock_nil t _).mono ?_
  rintro e w9 ⟨rfl, hw9⟩
  subst hw9
  go_wp2_with fail
  refine (try_nil t _).mono ?_
  rintro e w10 ⟨rfl, hw10⟩
  subst hw10
  go_wp2_with fail
  refine (writer_nil _).mono ?_
  rintro e w11 ⟨rfl, hw11⟩
  subst hw11
  go_wp2_with fail
  refine (readers_nil _).mono ?_
  rintro e w12 ⟨rfl, hw12⟩
  subst hw12
  go_wp2
  go_ret
  exact ⟨rfl, hb⟩

end Go.Proofs.Ytggfndokmdpaeaa
