/-
  What the law GroupEnds asks comes out true at any two numbers.
-/
import Derived.Test.YtgfkleaekaggoaaAwake
namespace Go.Proofs.Ytgfkleaekaggoaa
open Go.RowKit

theorem addL_nil (c n : Int) : addL c n [] = [] := by
  unfold addL
  split <;> rfl
set_option maxRecDepth 20000 in
set_option maxHeartbeats 8000000 in
theorem ends_walk (n m : Int) (hn : -9223372036854775808 ≤ n ∧ n ≤ 9223372036854775807) (hm : -9223372036854775808 ≤ m ∧ m ≤ 9223372036854775807) (w : World) : Calls Try.prog 6 #[.int .i64 n, .int .i64 m] w fun e w' => e = .returned (.bool true) ∧ Below w.heap.size w w' := by
  have N0 := hide (x_new (w := w))
  have HAW := hide awake_any
  have A1 : Hid (∀ M W, Xs w M none0 0 [] W → Calls Try.prog 13 #[.pointer (some ⟨M, 0, none⟩), .int .i64 n] W fun e w' => ∃ r, e = .returned (.tuple #[r, .int .i64 (addE 0 n)]) ∧ Xs w M none0 (addC 0 n) [] w' ∧ Kept none0 W w') := hide fun M W h => by
    have := x_add0 (by decide) n h
    rw [addL_nil] at this
    exact this
  have A2 : Hid (∀ C M W, 0 ≤ C ∧ C ≤ 1048576 → Xs w M none0 C [] W → Calls Try.prog 13 #[.pointer (some ⟨M, 0, none⟩), .int .i64 m] W fun e w' => ∃ r, e = .returned (.tuple #[r, .int .i64 (addE C m)]) ∧ Xs w M none0 (addC C m) [] w' ∧ Kept none0 W w') := hide fun C M W hC h => by
    have := x_add0 hC m h
    rw [addL_nil] at this
    exact this
  have hw : n < 0 ∨ 1048576 < n ∨ (0 ≤ n ∧ n ≤ 1048576) := by omega
  rcases hw with hw | hw | hw
  · have B1 : Hid (∀ M W, Xs w M none0 0 [] W → Calls Try.prog 13 #[.pointer (some ⟨M, 0, none⟩), .int .i64 n] W fun e w' => ∃ r, e = .returned (.tuple #[r, .int .i64 11]) ∧ Xs w M none0 0 [] w' ∧ Kept none0 W w') := hide fun M W h => by
      have := A1.out M W h
      obtain ⟨e1, e2, _⟩ := add_low (c := 0) (n := n) (l := []) (by omega)
      rw [e1, e2] at this
      exact this
    clear A1
    have u1 : IntKind.i64.wrap (-0) = 0 := rfl
    have u2 : IntKind.i64.wrap (1048576 - 0) = 1048576 := rfl
    have hv : m < 0 ∨ 1048576 < m ∨ (0 ≤ m ∧ m ≤ 1048576) := by omega
    rcases hv with hv | hv | hv
    · have B2 : Hid (∀ M W, Xs w M none0 0 [] W → Calls Try.prog 13 #[.pointer (some ⟨M, 0, none⟩), .int .i64 m] W fun e w' => ∃ r, e = .returned (.tuple #[r, .int .i64 11]) ∧ Xs w M none0 0 [] w' ∧ Kept none0 W w') := hide fun M W h => by
        have := A2.out 0 M W (by omega) h
        obtain ⟨e1, e2, _⟩ := add_low (c := 0) (n := m) (l := []) (by omega)
        rw [e1, e2] at this
        exact this
      clear A2
      go_enter Try.func6, Try.ntmps6
      go_wp2_with fail
      refine N0.out.mono ?_
      rintro e w1 ⟨rfl, hX⟩
      have HX := hide hX
      clear hX N0
      generalize w.heap.size = M at HX ⊢
      go_wp2_with fail
      refine (B1.out _ _ HX.out).mono ?_
      rintro e w2 ⟨r2, rfl, hX, _⟩
      have HX2 := hide hX
      clear hX HX B1
      go_wp2_with fail
      refine (x_count HX2.out).mono ?_
      rintro e w3 ⟨rfl, hw3⟩
      subst hw3
      go_wp2_with fail
      refine (x_count HX2.out).mono ?_
      rintro e w4 ⟨rfl, hw4⟩
      subst hw4
      go_wp2_with fail
      refine (B2.out _ _ HX2.out).mono ?_
      rintro e w5 ⟨r5, rfl, hX, _⟩
      have HX5 := hide hX
      clear hX HX2 B2
      go_wp2_with fail
      refine (HAW.out _).mono ?_
      rintro e w6 ⟨rfl, hb⟩
      have HX6 := hide (HX5.out.below hb)
      clear hb HX5 HAW
      go_wp2_with fail
      refine (x_count HX6.out).mono ?_
      rintro e w7 ⟨rfl, hw7⟩
      subst hw7
      have HB := hide HX6.out.2.2
      clear HX6
      go_wp2
      go_ret
      exact ⟨rfl, HB.out⟩
    · have B2 : Hid (∀ M W, Xs w M none0 0 [] W → Calls Try.prog 13 #[.pointer (some ⟨M, 0, none⟩), .int .i64 m] W fun e w' => ∃ r, e = .returned (.tuple #[r, .int .i64 13]) ∧ Xs w M none0 0 [] w' ∧ Kept none0 W w') := hide fun M W h => by
        have := A2.out 0 M W (by omega) h
        obtain ⟨e1, e2, _⟩ := add_over (c := 0) (n := m) (l := []) (by omega)
        rw [e1, e2] at this
        exact this
      clear A2
      go_enter Try.func6, Try.ntmps6
      go_wp2_with fail
      refine N0.out.mono ?_
      rintro e w1 ⟨rfl, hX⟩
      have HX := hide hX
      clear hX N0
      generalize w.heap.size = M at HX ⊢
      go_wp2_with fail
      refine (B1.out _ _ HX.out).mono ?_
      rintro e w2 ⟨r2, rfl, hX, _⟩
      have HX2 := hide hX
      clear hX HX B1
      go_wp2_with fail
      refine (x_count HX2.out).mono ?_
      rintro e w3 ⟨rfl, hw3⟩
      subst hw3
      go_wp2_with fail
      refine (x_count HX2.out).mono ?_
      rintro e w4 ⟨rfl, hw4⟩
      subst hw4
      go_wp2_with fail
      refine (B2.out _ _ HX2.out).mono ?_
      rintro e w5 ⟨r5, rfl, hX, _⟩
      have HX5 := hide hX
      clear hX HX2 B2
      go_wp2_with fail
      refine (HAW.out _).mono ?_
      rintro e w6 ⟨rfl, hb⟩
      have HX6 := hide (HX5.out.below hb)
      clear hb HX5 HAW
      go_wp2_with fail
      refine (x_count HX6.out).mono ?_
      rintro e w7 ⟨rfl, hw7⟩
      subst hw7
      have HB := hide HX6.out.2.2
      clear HX6
      go_wp2
      go_ret
      exact ⟨rfl, HB.out⟩
    · have B2 : Hid (∀ M W, Xs w M none0 0 [] W → Calls Try.prog 13 #[.pointer (some ⟨M, 0, none⟩), .int .i64 m] W fun e w' => ∃ r, e = .returned (.tuple #[r, .int .i64 0]) ∧ Xs w M none0 m [] w' ∧ Kept none0 W w') := hide fun M W h => by
        have := A2.out 0 M W (by omega) h
        obtain ⟨e1, e2, _⟩ := add_fit (c := 0) (n := m) (by omega) (by omega)
        rw [e1, e2, Int.zero_add] at this
        exact this
      clear A2
      have u3 : IntKind.i64.wrap (0 + m) = m := by rw [Int.zero_add]; exact wrapB (by omega)
      have u4 : IntKind.i64.wrap m = m := wrapB (by omega)
      go_enter Try.func6, Try.ntmps6
      go_wp2_with fail
      refine N0.out.mono ?_
      rintro e w1 ⟨rfl, hX⟩
      have HX := hide hX
      clear hX N0
      generalize w.heap.size = M at HX ⊢
      go_wp2_with fail
      refine (B1.out _ _ HX.out).mono ?_
      rintro e w2 ⟨r2, rfl, hX, _⟩
      have HX2 := hide hX
      clear hX HX B1
      go_wp2_with fail
      refine (x_count HX2.out).mono ?_
      rintro e w3 ⟨rfl, hw3⟩
      subst hw3
      go_wp2_with fail
      refine (x_count HX2.out).mono ?_
      rintro e w4 ⟨rfl, hw4⟩
      subst hw4
      go_wp2_with fail
      refine (B2.out _ _ HX2.out).mono ?_
      rintro e w5 ⟨r5, rfl, hX, _⟩
      have HX5 := hide hX
      clear hX HX2 B2
      go_wp2_with fail
      refine (HAW.out _).mono ?_
      rintro e w6 ⟨rfl, hb⟩
      have HX6 := hide (HX5.out.below hb)
      clear hb HX5 HAW
      go_wp2_with fail
      refine (x_count HX6.out).mono ?_
      rintro e w7 ⟨rfl, hw7⟩
      subst hw7
      have HB := hide HX6.out.2.2
      clear HX6
      go_wp2
      go_ret
      exact ⟨rfl, HB.out⟩
  · have B1 : Hid (∀ M W, Xs w M none0 0 [] W → Calls Try.prog 13 #[.pointer (some ⟨M, 0, none⟩), .int .i64 n] W fun e w' => ∃ r, e = .returned (.tuple #[r, .int .i64 13]) ∧ Xs w M none0 0 [] w' ∧ Kept none0 W w') := hide fun M W h => by
      have := A1.out M W h
      obtain ⟨e1, e2, _⟩ := add_over (c := 0) (n := n) (l := []) (by omega)
      rw [e1, e2] at this
      exact this
    clear A1
    have u1 : IntKind.i64.wrap (-0) = 0 := rfl
    have u2 : IntKind.i64.wrap (1048576 - 0) = 1048576 := rfl
    have hv : m < 0 ∨ 1048576 < m ∨ (0 ≤ m ∧ m ≤ 1048576) := by omega
    rcases hv with hv | hv | hv
    · have B2 : Hid (∀ M W, Xs w M none0 0 [] W → Calls Try.prog 13 #[.pointer (some ⟨M, 0, none⟩), .int .i64 m] W fun e w' => ∃ r, e = .returned (.tuple #[r, .int .i64 11]) ∧ Xs w M none0 0 [] w' ∧ Kept none0 W w') := hide fun M W h => by
        have := A2.out 0 M W (by omega) h
        obtain ⟨e1, e2, _⟩ := add_low (c := 0) (n := m) (l := []) (by omega)
        rw [e1, e2] at this
        exact this
      clear A2
      go_enter Try.func6, Try.ntmps6
      go_wp2_with fail
      refine N0.out.mono ?_
      rintro e w1 ⟨rfl, hX⟩
      have HX := hide hX
      clear hX N0
      generalize w.heap.size = M at HX ⊢
      go_wp2_with fail
      refine (B1.out _ _ HX.out).mono ?_
      rintro e w2 ⟨r2, rfl, hX, _⟩
      have HX2 := hide hX
      clear hX HX B1
      go_wp2_with fail
      refine (x_count HX2.out).mono ?_
      rintro e w3 ⟨rfl, hw3⟩
      subst hw3
      go_wp2_with fail
      refine (x_count HX2.out).mono ?_
      rintro e w4 ⟨rfl, hw4⟩
      subst hw4
      go_wp2_with fail
      refine (B2.out _ _ HX2.out).mono ?_
      rintro e w5 ⟨r5, rfl, hX, _⟩
      have HX5 := hide hX
      clear hX HX2 B2
      go_wp2_with fail
      refine (HAW.out _).mono ?_
      rintro e w6 ⟨rfl, hb⟩
      have HX6 := hide (HX5.out.below hb)
      clear hb HX5 HAW
      go_wp2_with fail
      refine (x_count HX6.out).mono ?_
      rintro e w7 ⟨rfl, hw7⟩
      subst hw7
      have HB := hide HX6.out.2.2
      clear HX6
      go_wp2
      go_ret
      exact ⟨rfl, HB.out⟩
    · have B2 : Hid (∀ M W, Xs w M none0 0 [] W → Calls Try.prog 13 #[.pointer (some ⟨M, 0, none⟩), .int .i64 m] W fun e w' => ∃ r, e = .returned (.tuple #[r, .int .i64 13]) ∧ Xs w M none0 0 [] w' ∧ Kept none0 W w') := hide fun M W h => by
        have := A2.out 0 M W (by omega) h
        obtain ⟨e1, e2, _⟩ := add_over (c := 0) (n := m) (l := []) (by omega)
        rw [e1, e2] at this
        exact this
      clear A2
      go_enter Try.func6, Try.ntmps6
      go_wp2_with fail
      refine N0.out.mono ?_
      rintro e w1 ⟨rfl, hX⟩
      have HX := hide hX
      clear hX N0
      generalize w.heap.size = M at HX ⊢
      go_wp2_with fail
      refine (B1.out _ _ HX.out).mono ?_
      rintro e w2 ⟨r2, rfl, hX, _⟩
      have HX2 := hide hX
      clear hX HX B1
      go_wp2_with fail
      refine (x_count HX2.out).mono ?_
      rintro e w3 ⟨rfl, hw3⟩
      subst hw3
      go_wp2_with fail
      refine (x_count HX2.out).mono ?_
      rintro e w4 ⟨rfl, hw4⟩
      subst hw4
      go_wp2_with fail
      refine (B2.out _ _ HX2.out).mono ?_
      rintro e w5 ⟨r5, rfl, hX, _⟩
      have HX5 := hide hX
      clear hX HX2 B2
      go_wp2_with fail
      refine (HAW.out _).mono ?_
      rintro e w6 ⟨rfl, hb⟩
      have HX6 := hide (HX5.out.below hb)
      clear hb HX5 HAW
      go_wp2_with fail
      refine (x_count HX6.out).mono ?_
      rintro e w7 ⟨rfl, hw7⟩
      subst hw7
      have HB := hide HX6.out.2.2
      clear HX6
      go_wp2
      go_ret
      exact ⟨rfl, HB.out⟩
    · have B2 : Hid (∀ M W, Xs w M none0 0 [] W → Calls Try.prog 13 #[.pointer (some ⟨M, 0, none⟩), .int .i64 m] W fun e w' => ∃ r, e = .returned (.tuple #[r, .int .i64 0]) ∧ Xs w M none0 m [] w' ∧ Kept none0 W w') := hide fun M W h => by
        have := A2.out 0 M W (by omega) h
        obtain ⟨e1, e2, _⟩ := add_fit (c := 0) (n := m) (by omega) (by omega)
        rw [e1, e2, Int.zero_add] at this
        exact this
      clear A2
      have u3 : IntKind.i64.wrap (0 + m) = m := by rw [Int.zero_add]; exact wrapB (by omega)
      have u4 : IntKind.i64.wrap m = m := wrapB (by omega)
      go_enter Try.func6, Try.ntmps6
      go_wp2_with fail
      refine N0.out.mono ?_
      rintro e w1 ⟨rfl, hX⟩
      have HX := hide hX
      clear hX N0
      generalize w.heap.size = M at HX ⊢
      go_wp2_with fail
      refine (B1.out _ _ HX.out).mono ?_
      rintro e w2 ⟨r2, rfl, hX, _⟩
      have HX2 := hide hX
      clear hX HX B1
      go_wp2_with fail
      refine (x_count HX2.out).mono ?_
      rintro e w3 ⟨rfl, hw3⟩
      subst hw3
      go_wp2_with fail
      refine (x_count HX2.out).mono ?_
      rintro e w4 ⟨rfl, hw4⟩
      subst hw4
      go_wp2_with fail
      refine (B2.out _ _ HX2.out).mono ?_
      rintro e w5 ⟨r5, rfl, hX, _⟩
      have HX5 := hide hX
      clear hX HX2 B2
      go_wp2_with fail
      refine (HAW.out _).mono ?_
      rintro e w6 ⟨rfl, hb⟩
      have HX6 := hide (HX5.out.below hb)
      clear hb HX5 HAW
      go_wp2_with fail
      refine (x_count HX6.out).mono ?_
      rintro e w7 ⟨rfl, hw7⟩
      subst hw7
      have HB := hide HX6.out.2.2
      clear HX6
      go_wp2
      go_ret
      exact ⟨rfl, HB.out⟩
  · have B1 : Hid (∀ M W, Xs w M none0 0 [] W → Calls Try.prog 13 #[.pointer (some ⟨M, 0, none⟩), .int .i64 n] W fun e w' => ∃ r, e = .returned (.tuple #[r, .int .i64 0]) ∧ Xs w M none0 n [] w' ∧ Kept none0 W w') := hide fun M W h => by
      have := A1.out M W h
      obtain ⟨e1, e2, _⟩ := add_fit (c := 0) (n := n) (by omega) (by omega)
      rw [e1, e2, Int.zero_add] at this
      exact this
    clear A1
    have u1 : IntKind.i64.wrap (-n) = -n := wrapB (by omega)
    have u2 : IntKind.i64.wrap (1048576 - n) = 1048576 - n := wrapB (by omega)
    have hv : m < -n ∨ 1048576 - n < m ∨ (-n ≤ m ∧ m ≤ 1048576 - n) := by omega
    rcases hv with hv | hv | hv
    · have B2 : Hid (∀ M W, Xs w M none0 n [] W → Calls Try.prog 13 #[.pointer (some ⟨M, 0, none⟩), .int .i64 m] W fun e w' => ∃ r, e = .returned (.tuple #[r, .int .i64 11]) ∧ Xs w M none0 n [] w' ∧ Kept none0 W w') := hide fun M W h => by
        have := A2.out n M W (by omega) h
        obtain ⟨e1, e2, _⟩ := add_low (c := n) (n := m) (l := []) (by omega)
        rw [e1, e2] at this
        exact this
      clear A2
      go_enter Try.func6, Try.ntmps6
      go_wp2_with fail
      refine N0.out.mono ?_
      rintro e w1 ⟨rfl, hX⟩
      have HX := hide hX
      clear hX N0
      generalize w.heap.size = M at HX ⊢
      go_wp2_with fail
      refine (B1.out _ _ HX.out).mono ?_
      rintro e w2 ⟨r2, rfl, hX, _⟩
      have HX2 := hide hX
      clear hX HX B1
      go_wp2_with fail
      refine (x_count HX2.out).mono ?_
      rintro e w3 ⟨rfl, hw3⟩
      subst hw3
      go_wp2_with fail
      refine (x_count HX2.out).mono ?_
      rintro e w4 ⟨rfl, hw4⟩
      subst hw4
      go_wp2_with fail
      refine (B2.out _ _ HX2.out).mono ?_
      rintro e w5 ⟨r5, rfl, hX, _⟩
      have HX5 := hide hX
      clear hX HX2 B2
      go_wp2_with fail
      refine (HAW.out _).mono ?_
      rintro e w6 ⟨rfl, hb⟩
      have HX6 := hide (HX5.out.below hb)
      clear hb HX5 HAW
      go_wp2_with fail
      refine (x_count HX6.out).mono ?_
      rintro e w7 ⟨rfl, hw7⟩
      subst hw7
      have HB := hide HX6.out.2.2
      clear HX6
      go_wp2
      go_ret
      exact ⟨rfl, HB.out⟩
    · have B2 : Hid (∀ M W, Xs w M none0 n [] W → Calls Try.prog 13 #[.pointer (some ⟨M, 0, none⟩), .int .i64 m] W fun e w' => ∃ r, e = .returned (.tuple #[r, .int .i64 13]) ∧ Xs w M none0 n [] w' ∧ Kept none0 W w') := hide fun M W h => by
        have := A2.out n M W (by omega) h
        obtain ⟨e1, e2, _⟩ := add_over (c := n) (n := m) (l := []) (by omega)
        rw [e1, e2] at this
        exact this
      clear A2
      go_enter Try.func6, Try.ntmps6
      go_wp2_with fail
      refine N0.out.mono ?_
      rintro e w1 ⟨rfl, hX⟩
      have HX := hide hX
      clear hX N0
      generalize w.heap.size = M at HX ⊢
      go_wp2_with fail
      refine (B1.out _ _ HX.out).mono ?_
      rintro e w2 ⟨r2, rfl, hX, _⟩
      have HX2 := hide hX
      clear hX HX B1
      go_wp2_with fail
      refine (x_count HX2.out).mono ?_
      rintro e w3 ⟨rfl, hw3⟩
      subst hw3
      go_wp2_with fail
      refine (x_count HX2.out).mono ?_
      rintro e w4 ⟨rfl, hw4⟩
      subst hw4
      go_wp2_with fail
      refine (B2.out _ _ HX2.out).mono ?_
      rintro e w5 ⟨r5, rfl, hX, _⟩
      have HX5 := hide hX
      clear hX HX2 B2
      go_wp2_with fail
      refine (HAW.out _).mono ?_
      rintro e w6 ⟨rfl, hb⟩
      have HX6 := hide (HX5.out.below hb)
      clear hb HX5 HAW
      go_wp2_with fail
      refine (x_count HX6.out).mono ?_
      rintro e w7 ⟨rfl, hw7⟩
      subst hw7
      have HB := hide HX6.out.2.2
      clear HX6
      go_wp2
      go_ret
      exact ⟨rfl, HB.out⟩
    · have B2 : Hid (∀ M W, Xs w M none0 n [] W → Calls Try.prog 13 #[.pointer (some ⟨M, 0, none⟩), .int .i64 m] W fun e w' => ∃ r, e = .returned (.tuple #[r, .int .i64 0]) ∧ Xs w M none0 (n + m) [] w' ∧ Kept none0 W w') := hide fun M W h => by
        have := A2.out n M W (by omega) h
        obtain ⟨e1, e2, _⟩ := add_fit (c := n) (n := m) (by omega) (by omega)
        rw [e1, e2] at this
        exact this
      clear A2
      have u3 : IntKind.i64.wrap (n + m) = (n + m) := wrapB (by omega)
      go_enter Try.func6, Try.ntmps6
      go_wp2_with fail
      refine N0.out.mono ?_
      rintro e w1 ⟨rfl, hX⟩
      have HX := hide hX
      clear hX N0
      generalize w.heap.size = M at HX ⊢
      go_wp2_with fail
      refine (B1.out _ _ HX.out).mono ?_
      rintro e w2 ⟨r2, rfl, hX, _⟩
      have HX2 := hide hX
      clear hX HX B1
      go_wp2_with fail
      refine (x_count HX2.out).mono ?_
      rintro e w3 ⟨rfl, hw3⟩
      subst hw3
      go_wp2_with fail
      refine (x_count HX2.out).mono ?_
      rintro e w4 ⟨rfl, hw4⟩
      subst hw4
      go_wp2_with fail
      refine (B2.out _ _ HX2.out).mono ?_
      rintro e w5 ⟨r5, rfl, hX, _⟩
      have HX5 := hide hX
      clear hX HX2 B2
      go_wp2_with fail
      refine (HAW.out _).mono ?_
      rintro e w6 ⟨rfl, hb⟩
      have HX6 := hide (HX5.out.below hb)
      clear hb HX5 HAW
      go_wp2_with fail
      refine (x_count HX6.out).mono ?_
      rintro e w7 ⟨rfl, hw7⟩
      subst hw7
      have HB := hide HX6.out.2.2
      clear HX6
      go_wp2
      go_ret
      exact ⟨rfl, HB.out⟩

end Go.Proofs.Ytgfkleaekaggoaa
