/-
  The fixed fact that each statement asks comes out true; and what none of it answers.
-/
import Derived.Test.YtinipmandmhgnaaXs
namespace Go.Proofs.Ytinipmandmhgnaa
open Go.RowKit

set_option maxHeartbeats 400000 in
theorem beg_nil (t : Int) (w : World) : Calls Try.prog 13 #[.pointer none, .int .i64 t] w fun e w' => e = .returned (.tuple #[.bool false, .int .i64 1]) ∧ w' = w := by
  go_enter Try.func13, Try.ntmps13
  go_wp2
  go_ret2
  exact ⟨rfl, rfl⟩
set_option maxHeartbeats 400000 in
theorem dn_nil (t : Int) (w : World) : Calls Try.prog 10 #[.pointer none, .int .i64 t] w fun e w' => e = .returned (.tuple #[.slice none 0 0, .int .i64 1]) ∧ w' = w := by
  go_enter Try.func10, Try.ntmps10
  go_wp2
  go_ret2
  exact ⟨rfl, rfl⟩
set_option maxHeartbeats 400000 in
theorem drop_nil (t : Int) (w : World) : Calls Try.prog 8 #[.pointer none, .int .i64 t] w fun e w' => e = .returned (.bool false) ∧ w' = w := by
  go_enter Try.func8, Try.ntmps8
  go_wp2
  go_ret
  exact ⟨rfl, rfl⟩
set_option maxHeartbeats 400000 in
theorem doer_nil (w : World) : Calls Try.prog 15 #[.pointer none] w fun e w' => e = .returned (.int .i64 0) ∧ w' = w := by
  go_enter Try.func15, Try.ntmps15
  go_wp2
  go_ret
  exact ⟨rfl, rfl⟩
set_option maxHeartbeats 400000 in
theorem over_nil (w : World) : Calls Try.prog 17 #[.pointer none] w fun e w' => e = .returned (.bool false) ∧ w' = w := by
  go_enter Try.func17, Try.ntmps17
  go_wp2
  go_ret
  exact ⟨rfl, rfl⟩
set_option maxHeartbeats 400000 in
theorem waits_nil (w : World) : Calls Try.prog 18 #[.pointer none] w fun e w' => e = .returned (.slice none 0 0) ∧ w' = w := by
  go_enter Try.func18, Try.ntmps18
  go_wp2
  go_ret
  exact ⟨rfl, rfl⟩

theorem okz_of {l : List Int} (h : l.Nodup ∧ ∀ x ∈ l, 1 ≤ x) : Okz l := ⟨h.1, h.2⟩
theorem one_new (W : World) (t : Int) : RowZ (W.alloc (.cells #[.int .i64 t] 3)) (some ⟨W.heap.size, 0, none⟩) [t] := one_z (by simp) (Lib.cell_of_heap (heap_alloc_new _ _) 0)
/-- A list beside one of one number. -/
theorem same_one (a : Option Addr) (c : Nat) (t : Int) (w : World) (h1 : RowZ w a [t]) : Calls Try.prog 12 #[.slice a 1 c, .slice (some ⟨w.heap.size, 0, none⟩) 1 1] (w.alloc (.cells #[.int .i64 t] 3)) fun e w' => e = .returned (.bool true) ∧ Below w.heap.size w w' :=
  (same_ints a (some ⟨w.heap.size, 0, none⟩) c 1 [t] (w.alloc (.cells #[.int .i64 t] 3)) (by simp) (h1.below (below1 _ _)) (one_new w t)).mono fun _ _ k => ⟨k.1, below_next (below1 _ _) k.2⟩

set_option maxRecDepth 20000 in
set_option maxHeartbeats 4000000 in
theorem awake_any (w : World) : Calls Try.prog 20 #[] w fun e w' => e = .returned (.bool true) ∧ Below w.heap.size w w' := by
  have N0 := hide (x_new (w := w))
  have T1 : Hid (∀ M W, Xs w M none0 [] false W → Calls Try.prog 13 #[.pointer (some ⟨M, 0, none⟩), .int .i64 1] W fun e w' => e = .returned (.tuple #[.bool true, .int .i64 0]) ∧ Xs w M none0 [1] false w' ∧ Kept none0 W w') := fun M W h => x_beg Okz.nil (by decide) 1 h
  have T2 : Hid (∀ M W, Xs w M none0 [1] false W → Calls Try.prog 13 #[.pointer (some ⟨M, 0, none⟩), .int .i64 2] W fun e w' => e = .returned (.tuple #[.bool false, .int .i64 14]) ∧ Xs w M none0 [1, 2] false w' ∧ Kept none0 W w') := fun M W h => x_beg (okz_of (by decide)) (by decide) 2 h
  have T3 : Hid (∀ M W, Xs w M none0 [1, 2] false W → Calls Try.prog 10 #[.pointer (some ⟨M, 0, none⟩), .int .i64 2] W fun e w' => ∃ a c, e = .returned (.tuple #[.slice a 0 c, .int .i64 11]) ∧ Xs w M none0 [1, 2] false w') := fun M W h => (x_dn 2 h).mono fun _ _ ⟨a, c, k1, _, k3, _⟩ => ⟨a, c, k1, k3.mono fun _ hi => Or.inl hi⟩
  have T4 : Hid (∀ M W, Xs w M none0 [1, 2] false W → Calls Try.prog 10 #[.pointer (some ⟨M, 0, none⟩), .int .i64 1] W fun e w' => ∃ a c, e = .returned (.tuple #[.slice a 1 c, .int .i64 0]) ∧ RowF (fun k => none0 k ∨ adr [2] a k) w' a [2] ∧ Xs w M (fun k => none0 k ∨ adr [2] a k) [] true w' ∧ Kept none0 W w') := fun M W h => x_dn 1 h
  have T5 : Hid (∀ M F W, Xs w M F [] true W → Calls Try.prog 13 #[.pointer (some ⟨M, 0, none⟩), .int .i64 3] W fun e w' => e = .returned (.tuple #[.bool false, .int .i64 0]) ∧ Xs w M F [] true w' ∧ Kept F W w') := fun M F W h => x_beg Okz.nil (by decide) 3 h
  go_enter Try.func20, Try.ntmps20
  go_wp2_with fail
  refine N0.out.mono ?_
  rintro e w1 ⟨rfl, hA⟩
  have HA := hide hA
  clear hA N0
  generalize w.heap.size = M at HA ⊢
  go_wp2_with fail
  refine (T1.out _ _ HA.out).mono ?_
  rintro e w2 ⟨rfl, hA, _⟩
  have HA2 := hide hA
  clear hA T1 HA
  go_wp2_with fail
  refine (T2.out _ _ HA2.out).mono ?_
  rintro e w3 ⟨rfl, hA, _⟩
  have HA3 := hide hA
  clear hA T2 HA2
  go_wp2_with fail
  refine (T3.out _ _ HA3.out).mono ?_
  rintro e w4 ⟨a4, c4, rfl, hA⟩
  have HA4 := hide hA
  clear hA T3 HA3
  go_wp2_with fail
  refine (T4.out _ _ HA4.out).mono ?_
  rintro e w7 ⟨a7, c7, rfl, hr, hA, _⟩
  have HA7 := hide hA
  have HR7 := hide hr
  clear hA hr T4 HA4
  go_wp2_with fail
  refine (T5.out _ _ _ HA7.out).mono ?_
  rintro e w8 ⟨rfl, hA, hk⟩
  have HA8 := hide hA
  have HR8 := hide (HR7.out.kept hk)
  clear hA hk T5 HA7 HR7
  have HI := hide (same_one a7 c7 2 w8 HR8.out.row)
  clear HR8
  go_wp2_with fail
  refine HI.out.mono ?_
  rintro e w9 ⟨rfl, hb9⟩
  have HA9 := hide (HA8.out.below hb9)
  clear HI HA8 hb9
  go_wp2_with fail
  refine (x_over HA9.out).mono ?_
  rintro e w10 ⟨rfl, hw⟩
  subst hw
  have HB10 := hide HA9.out.2.2
  clear HA9
  go_wp2
  go_ret
  exact ⟨rfl, HB10.out⟩

set_option maxRecDepth 20000 in
set_option maxHeartbeats 4000000 in
theorem none_walk (t : Int) (w : World) : Calls Try.prog 6 #[.int .i64 t] w fun e w' => e = .returned (.bool true) ∧ Below w.heap.size w w' := by
  have HA := hide (awake_any w)
  go_enter Try.func6, Try.ntmps6
  go_wp2_with fail
  refine (beg_nil t _).mono ?_
  rintro e w2 ⟨rfl, hw2⟩
  subst hw2
  go_wp2_with fail
  refine (dn_nil t _).mono ?_
  rintro e w3 ⟨rfl, hw3⟩
  subst hw3
  go_wp2_with fail
  refine HA.out.mono ?_
  rintro e w6 ⟨rfl, hb⟩
  clear HA
  go_wp2_with fail
  refine (drop_nil t _).mono ?_
  rintro e w7 ⟨rfl, hw7⟩
  subst hw7
  go_wp2_with fail
  refine (doer_nil _).mono ?_
  rintro e w8 ⟨rfl, hw8⟩
  subst hw8
  go_wp2_with fail
  refine (over_nil _).mono ?_
  rintro e w9 ⟨rfl, hw9⟩
  subst hw9
  go_wp2_with fail
  refine (waits_nil _).mono ?_
  rintro e w10 ⟨rfl, hw10⟩
  subst hw10
  go_wp2
  go_ret
  exact ⟨rfl, hb⟩

end Go.Proofs.Ytinipmandmhgnaa
