/-
  The fixed fact that each statement asks comes out true; and what no mutex answers.
-/
import Derived.Test.YtbagkmijnjjmgaaLock
namespace Go.Proofs.Ytbagkmijnjjmgaa
open Go.RowKit

/-- On with what is held, and with what lay there ahead of it. -/
theorem NowM.step {w w1 w2 : World} {M : Nat} {v : Value} {s t : List Int} (h : NowM M w.heap.size v t w1 w2) (ha : AtM w1 M w.heap.size v s) (hl : w.heap.size ≤ M) (hb : Below w.heap.size w w1) :
    (∃ v', AtM w2 M w.heap.size v' t) ∧ Below w.heap.size w w2 := by
  have hlow := h.low ha hl (Nat.le_refl _) hb.size
  obtain ⟨v', k1, _⟩ := h
  exact ⟨⟨v', k1⟩, hb.trans hlow⟩

set_option maxHeartbeats 400000 in
theorem try_nil (t : Int) (w : World) : Calls Try.prog 11 #[.pointer none, .int .i64 t] w fun e w' => e = .returned (.int .i64 1) ∧ w' = w := by
  go_enter Try.func11, Try.ntmps11
  go_wp2
  go_ret
  exact ⟨rfl, rfl⟩
set_option maxHeartbeats 400000 in
theorem lock_nil (t : Int) (w : World) : Calls Try.prog 15 #[.pointer none, .int .i64 t] w fun e w' => e = .returned (.int .i64 1) ∧ w' = w := by
  go_enter Try.func15, Try.ntmps15
  go_wp2_with fail
  refine (try_nil t _).mono ?_
  rintro e w2 ⟨rfl, hw2⟩
  subst hw2
  go_wp2
  go_ret
  exact ⟨rfl, rfl⟩
set_option maxHeartbeats 400000 in
theorem unlock_nil (t : Int) (w : World) : Calls Try.prog 13 #[.pointer none, .int .i64 t] w fun e w' => e = .returned (.tuple #[.int .i64 0, .int .i64 1]) ∧ w' = w := by
  go_enter Try.func13, Try.ntmps13
  go_wp2
  go_ret2
  exact ⟨rfl, rfl⟩
set_option maxHeartbeats 400000 in
theorem drop_nil (t : Int) (w : World) : Calls Try.prog 9 #[.pointer none, .int .i64 t] w fun e w' => e = .returned (.bool false) ∧ w' = w := by
  go_enter Try.func9, Try.ntmps9
  go_wp2
  go_ret
  exact ⟨rfl, rfl⟩
set_option maxHeartbeats 400000 in
theorem holder_nil (w : World) : Calls Try.prog 16 #[.pointer none] w fun e w' => e = .returned (.int .i64 0) ∧ w' = w := by
  go_enter Try.func16, Try.ntmps16
  go_wp2
  go_ret
  exact ⟨rfl, rfl⟩
set_option maxHeartbeats 400000 in
theorem waits_nil (w : World) : Calls Try.prog 19 #[.pointer none] w fun e w' => e = .returned (.slice none 0 0) ∧ w' = w := by
  go_enter Try.func19, Try.ntmps19
  go_wp2
  go_ret
  exact ⟨rfl, rfl⟩

theorem okz_of {l : List Int} (h : l.Nodup ∧ ∀ x ∈ l, 1 ≤ x) : Okz l := ⟨h.1, h.2⟩

set_option maxHeartbeats 4000000 in
theorem awake_any (w : World) : Calls Try.prog 21 #[] w fun e w' => e = .returned (.bool true) ∧ Below w.heap.size w w' := by
  have N0 := hide (new_any w)
  have k0 : Okz [] := Okz.nil
  have k1 : Okz [1] := okz_of (by decide)
  have k2 : Okz [1, 2] := okz_of (by decide)
  have k3 : Okz [1, 2, 3] := okz_of (by decide)
  have k4 : Okz [1, 3] := okz_of (by decide)
  have T1 : Hid (∀ M v W, AtM W M w.heap.size v [] → w.heap.size ≤ W.heap.size → Calls Try.prog 15 #[.pointer (some ⟨M, 0, none⟩), .int .i64 1] W fun e w' => e = .returned (.int .i64 0) ∧ NowM M w.heap.size v [1] W w') := fun M v W h hb =>
    lock_any M _ v [] k0 (by decide) 1 W h hb
  have T2 : Hid (∀ M v W, AtM W M w.heap.size v [1] → w.heap.size ≤ W.heap.size → Calls Try.prog 15 #[.pointer (some ⟨M, 0, none⟩), .int .i64 2] W fun e w' => e = .returned (.int .i64 14) ∧ NowM M w.heap.size v [1, 2] W w') := fun M v W h hb =>
    lock_any M _ v [1] k1 (by decide) 2 W h hb
  have T3 : Hid (∀ M v W, AtM W M w.heap.size v [1, 2] → w.heap.size ≤ W.heap.size → Calls Try.prog 15 #[.pointer (some ⟨M, 0, none⟩), .int .i64 3] W fun e w' => e = .returned (.int .i64 14) ∧ NowM M w.heap.size v [1, 2, 3] W w') := fun M v W h hb =>
    lock_any M _ v [1, 2] k2 (by decide) 3 W h hb
  have T4 : Hid (∀ M v W, AtM W M w.heap.size v [1, 2, 3] → Calls Try.prog 11 #[.pointer (some ⟨M, 0, none⟩), .int .i64 4] W fun e w' => e = .returned (.int .i64 12) ∧ NowM M w.heap.size v [1, 2, 3] W w') := fun M v W h =>
    try_any M _ v [1, 2, 3] k3 (by decide) 4 W h
  have T5 : Hid (∀ M v W, AtM W M w.heap.size v [1, 2, 3] → w.heap.size ≤ W.heap.size → Calls Try.prog 15 #[.pointer (some ⟨M, 0, none⟩), .int .i64 1] W fun e w' => e = .returned (.int .i64 11) ∧ NowM M w.heap.size v [1, 2, 3] W w') := fun M v W h hb =>
    lock_any M _ v [1, 2, 3] k3 (by decide) 1 W h hb
  have T6 : Hid (∀ M v W, AtM W M w.heap.size v [1, 2, 3] → Calls Try.prog 9 #[.pointer (some ⟨M, 0, none⟩), .int .i64 2] W fun e w' => e = .returned (.bool true) ∧ NowM M w.heap.size v [1, 3] W w') := fun M v W h =>
    drop_any M _ v [1, 2, 3] (by decide) k3.tail.nd 2 W h
  have T7 : Hid (∀ M v W, AtM W M w.heap.size v [1, 3] → Calls Try.prog 13 #[.pointer (some ⟨M, 0, none⟩), .int .i64 1] W fun e w' => e = .returned (.tuple #[.int .i64 3, .int .i64 0]) ∧ NowM M w.heap.size v [3] W w') := fun M v W h =>
    unlock_any M _ v [1, 3] k4 (by decide) 1 W h
  have T8 : Hid (∀ M v W, AtM W M w.heap.size v [3] → Calls Try.prog 16 #[.pointer (some ⟨M, 0, none⟩)] W fun e w' => e = .returned (.int .i64 3) ∧ w' = W) := fun M v W h =>
    holder_any M _ v [3] W h
  have T9 : Hid (∀ M v W, AtM W M w.heap.size v [3] → Calls Try.prog 19 #[.pointer (some ⟨M, 0, none⟩)] W fun e w' => Owned [] W e w') := fun M v W h =>
    waits_any M _ v [3] (by decide) W h
  clear k0 k1 k2 k3 k4
  go_enter Try.func21, Try.ntmps21
  go_wp2_with fail
  refine N0.out.mono ?_
  rintro e w1 ⟨rfl, hA, hb⟩
  have HA := hide hA
  obtain ⟨M, hMe⟩ : ∃ M, M = w.heap.size := ⟨_, rfl⟩
  replace HA : Hid (AtM w1 M w.heap.size (.slice none 0 0) []) := by rw [hMe]; exact HA
  have hl : w.heap.size ≤ M := by omega
  rw [← hMe]
  clear hA N0 hMe
  go_wp2_with fail
  refine (T1.out _ _ _ HA.out hb.size).mono ?_
  rintro e w2 ⟨rfl, hN⟩
  obtain ⟨⟨v2, hA2⟩, hb2⟩ := hN.step HA.out hl hb
  have HA2 := hide hA2
  clear hA2 hN HA hb
  go_wp2_with fail
  refine (T2.out _ _ _ HA2.out hb2.size).mono ?_
  rintro e w3 ⟨rfl, hN⟩
  obtain ⟨⟨v3, hA3⟩, hb3⟩ := hN.step HA2.out hl hb2
  have HA3 := hide hA3
  clear hA3 hN HA2 hb2
  go_wp2_with fail
  refine (T3.out _ _ _ HA3.out hb3.size).mono ?_
  rintro e w4 ⟨rfl, hN⟩
  obtain ⟨⟨v4, hA4⟩, hb4⟩ := hN.step HA3.out hl hb3
  have HA4 := hide hA4
  clear hA4 hN HA3 hb3
  go_wp2_with fail
  refine (T4.out _ _ _ HA4.out).mono ?_
  rintro e w5 ⟨rfl, hN⟩
  obtain ⟨⟨v5, hA5⟩, hb5⟩ := hN.step HA4.out hl hb4
  have HA5 := hide hA5
  clear hA5 hN HA4 hb4
  go_wp2_with fail
  refine (T5.out _ _ _ HA5.out hb5.size).mono ?_
  rintro e w6 ⟨rfl, hN⟩
  obtain ⟨⟨v6, hA6⟩, hb6⟩ := hN.step HA5.out hl hb5
  have HA6 := hide hA6
  clear hA6 hN HA5 hb5
  go_wp2_with fail
  refine (T6.out _ _ _ HA6.out).mono ?_
  rintro e w7 ⟨rfl, hN⟩
  obtain ⟨⟨v7, hA7⟩, hb7⟩ := hN.step HA6.out hl hb6
  have HA7 := hide hA7
  clear hA7 hN HA6 hb6
  go_wp2_with fail
  refine (T7.out _ _ _ HA7.out).mono ?_
  rintro e w8 ⟨rfl, hN⟩
  obtain ⟨⟨v8, hA8⟩, hb8⟩ := hN.step HA7.out hl hb7
  have HA8 := hide hA8
  clear hA8 hN HA7 hb7
  go_wp2_with fail
  refine (T8.out _ _ _ HA8.out).mono ?_
  rintro e w9 ⟨rfl, hw9⟩
  subst hw9
  go_wp2_with fail
  refine (T9.out _ _ _ HA8.out).mono ?_
  rintro e w10 ⟨u, rfl, hu, hb10⟩
  obtain ⟨ua, uc, rfl⟩ := owns_slice hu
  replace hb8 := below_next hb8 hb10
  clear hb10 hu HA8
  go_wp2
  go_ret
  exact ⟨rfl, hb8⟩

set_option maxHeartbeats 4000000 in
theorem none_walk (t : Int) (w : World) : Calls Try.prog 7 #[.int .i64 t] w fun e w' => e = .returned (.bool true) ∧ Below w.heap.size w w' := by
  have HA := hide (awake_any w)
  go_enter Try.func7, Try.ntmps7
  go_wp2_with fail
  refine (unlock_nil t _).mono ?_
  rintro e w2 ⟨rfl, hw2⟩
  subst hw2
  go_wp2_with fail
  refine HA.out.mono ?_
  rintro e w3 ⟨rfl, hb⟩
  clear HA
  go_wp2_with fail
  refine (lock_nil t _).mono ?_
  rintro e w4 ⟨rfl, hw4⟩
  subst hw4
  go_wp2_with fail
  refine (try_nil t _).mono ?_
  rintro e w5 ⟨rfl, hw5⟩
  subst hw5
  go_wp2_with fail
  refine (drop_nil t _).mono ?_
  rintro e w6 ⟨rfl, hw6⟩
  subst hw6
  go_wp2_with fail
  refine (holder_nil _).mono ?_
  rintro e w7 ⟨rfl, hw7⟩
  subst hw7
  go_wp2_with fail
  refine (waits_nil _).mono ?_
  rintro e w8 ⟨rfl, hw8⟩
  subst hw8
  go_wp2
  go_ret
  exact ⟨rfl, hb⟩

end Go.Proofs.Ytbagkmijnjjmgaa
