/-
  What the law CondOnce asks comes out true at any two tasks, dropped or signalled.
-/
import Derived.Test.YtinfmchbcipbjaaAwake
namespace Go.Proofs.Ytinfmchbcipbjaa
open Go.RowKit

theorem okz_one {t : Int} (h : ¬ t < 1) : Okz [t] := ⟨by simp, fun x hx => by simp at hx; omega⟩
theorem okz_two {t u : Int} (h : ¬ t < 1) (k : ¬ u < 1) (e : t ≠ u) : Okz [t, u] := ⟨by simp [e], fun x hx => by simp at hx; omega⟩
/-- A list beside one of two numbers. -/
theorem same_two (a : Option Addr) (c : Nat) (t u : Int) (w : World) (h1 : RowZ w a [t, u]) : Calls Try.prog 13 #[.slice a 2 c, .slice (some ⟨w.heap.size, 0, none⟩) 2 2] (w.alloc (.cells #[.int .i64 t, .int .i64 u] 3)) fun e w' => e = .returned (.bool true) ∧ Below w.heap.size w w' := by
  refine (same_ints a (some ⟨w.heap.size, 0, none⟩) c 2 [t, u] (w.alloc (.cells #[.int .i64 t, .int .i64 u] 3)) (by simp) (h1.below (below1 _ _)) (fun _ => ⟨w.heap.size, 0, rfl, by simp, fun k hk => ?_⟩)).mono fun _ _ k => ⟨k.1, below_next (below1 _ _) k.2⟩
  simp at hk
  have h2 : (w.alloc (.cells #[.int .i64 t, .int .i64 u] 3)).heap[w.heap.size]? = some (.cells #[.int .i64 t, .int .i64 u] 3 (0, 0)) := heap_alloc_new _ _
  match k, hk with
  | 0, _ => exact Lib.cell_of_heap h2 0
  | 1, _ => exact Lib.cell_of_heap h2 1

set_option maxRecDepth 20000 in
set_option maxHeartbeats 4000000 in
theorem once_low (t u : Int) (b : Bool) (w : World) (h : t < 1 ∨ u < 1 ∨ t = u) : Calls Try.prog 5 #[.int .i64 t, .int .i64 u, .bool b] w fun e w' => e = .returned (.bool true) ∧ Below w.heap.size w w' := by
  have N0 := hide (x_new (w := w))
  have HA := hide awake_any
  by_cases h1 : t < 1
  · have T8 : Hid (∀ M W, Xs w M none0 [] W → Calls Try.prog 15 #[.pointer (some ⟨M, 0, none⟩), .int .i64 t] W fun e w' => e = .returned (.int .i64 1) ∧ Xs w M none0 [] w' ∧ Kept none0 W w') := fun M W h => by
      have := x_wait (l := []) (by decide) t h
      rw [(wait_low h1).1, (wait_low h1).2] at this
      exact this
    have h2 : ¬ 1 ≤ t := by omega
    clear h
    go_enter Try.func5, Try.ntmps5
    go_wp2_with fail
    refine N0.out.mono ?_
    rintro e w1 ⟨rfl, hA⟩
    have HX := hide hA
    clear hA N0
    generalize w.heap.size = M at HX ⊢
    go_wp2_with fail
    refine (HA.out _).mono ?_
    rintro e w2 ⟨rfl, hb⟩
    have HX2 := hide (HX.out.below hb)
    clear hb HX
    go_wp2_with fail
    refine (T8.out _ _ HX2.out).mono ?_
    rintro e w3 ⟨rfl, hA, _⟩
    have HB := hide hA.2.2
    clear hA HX2 T8
    go_wp2
    go_ret
    exact ⟨rfl, HB.out⟩
  · have h2 : 1 ≤ t := by omega
    have fin : ∀ b1 b2 : Bool, Hid (decide (u < 1) = b1) → Hid ((t == u) = b2) → Hid (b1 = true ∨ b2 = true) → Calls Try.prog 5 #[.int .i64 t, .int .i64 u, .bool b] w fun e w' => e = .returned (.bool true) ∧ Below w.heap.size w w' := by
      intro b1 b2 k1 k2 k3
      cases b1
      · cases b2
        · rcases k3.out with q | q <;> cases q
        · have q1 : ¬ u < 1 := of_decide_eq_false k1.out
          have q2 : (t == u) = true := k2.out
          clear k1 k2 k3 h
          go_enter Try.func5, Try.ntmps5
          go_wp2_with fail
          refine N0.out.mono ?_
          rintro e w1 ⟨rfl, hA⟩
          have HX := hide hA
          clear hA N0
          generalize w.heap.size = M at HX ⊢
          go_wp2_with fail
          refine (HA.out _).mono ?_
          rintro e w2 ⟨rfl, hb⟩
          have HX2 := hide (HX.out.below hb).2.2
          clear hb HX
          go_wp2
          go_ret
          exact ⟨rfl, HX2.out⟩
      · have q1 : u < 1 := of_decide_eq_true k1.out
        clear k1 k2 k3 h
        go_enter Try.func5, Try.ntmps5
        go_wp2_with fail
        refine N0.out.mono ?_
        rintro e w1 ⟨rfl, hA⟩
        have HX := hide hA
        clear hA N0
        generalize w.heap.size = M at HX ⊢
        go_wp2_with fail
        refine (HA.out _).mono ?_
        rintro e w2 ⟨rfl, hb⟩
        have HX2 := hide (HX.out.below hb).2.2
        clear hb HX
        go_wp2
        go_ret
        exact ⟨rfl, HX2.out⟩
    refine fin _ _ rfl rfl ?_
    rcases h with q | q | q
    · exact absurd q h1
    · exact Or.inl (decide_eq_true q)
    · exact Or.inr (by simpa using q)

set_option maxRecDepth 20000 in
set_option maxHeartbeats 4000000 in
theorem once_walk (t u : Int) (b : Bool) (w : World) : Calls Try.prog 5 #[.int .i64 t, .int .i64 u, .bool b] w fun e w' => e = .returned (.bool true) ∧ Below w.heap.size w w' := by
  by_cases h : t < 1 ∨ u < 1 ∨ t = u
  · exact once_low t u b w h
  have h1 : ¬ t < 1 := fun q => h (Or.inl q)
  have h2 : ¬ u < 1 := fun q => h (Or.inr (Or.inl q))
  have h3 : t ≠ u := fun q => h (Or.inr (Or.inr q))
  have h3' : (t == u) = false := by simpa using h3
  have N0 := hide (x_new (w := w))
  have HA := hide awake_any
  have T1 : Hid (∀ M W, Xs w M none0 [] W → Calls Try.prog 15 #[.pointer (some ⟨M, 0, none⟩), .int .i64 t] W fun e w' => e = .returned (.int .i64 14) ∧ Xs w M none0 [t] w' ∧ Kept none0 W w') := fun M W k => by
    have := x_wait (l := []) (by decide) t k
    rw [(wait_out h1 (l := []) rfl).1, (wait_out h1 (l := []) rfl).2] at this
    exact this
  have i1 : inZ [t] u = false := by simp [inZ, h3]
  have T2 : Hid (∀ M W, Xs w M none0 [t] W → Calls Try.prog 15 #[.pointer (some ⟨M, 0, none⟩), .int .i64 u] W fun e w' => e = .returned (.int .i64 14) ∧ Xs w M none0 [t, u] w' ∧ Kept none0 W w') := fun M W k => by
    have := x_wait (l := [t]) (by simp) u k
    rw [(wait_out h2 i1).1, (wait_out h2 i1).2] at this
    exact this
  have i2 : inZ [t, u] t = true := by simp [inZ]
  have T3 : Hid (∀ M W, Xs w M none0 [t, u] W → Calls Try.prog 15 #[.pointer (some ⟨M, 0, none⟩), .int .i64 t] W fun e w' => e = .returned (.int .i64 11) ∧ Xs w M none0 [t, u] w' ∧ Kept none0 W w') := fun M W k => by
    have := x_wait (l := [t, u]) (by simp) t k
    rw [(wait_in h1 i2).1, (wait_in h1 i2).2] at this
    exact this
  have r1 : rmZ [t, u] t = [u] := rm_hold (okz_two h1 h2 h3)
  have T4 : Hid (∀ M W, Xs w M none0 [t, u] W → Calls Try.prog 8 #[.pointer (some ⟨M, 0, none⟩), .int .i64 t] W fun e w' => e = .returned (.bool true) ∧ Xs w M none0 [u] w' ∧ Kept none0 W w') := fun M W k => by
    have := x_drop (okz_two h1 h2 h3) (by simp) t k
    rw [i2, r1] at this
    exact this
  have i3 : inZ [u] t = false := by simp [inZ, Ne.symm h3]
  have T5 : Hid (∀ M W, Xs w M none0 [u] W → Calls Try.prog 8 #[.pointer (some ⟨M, 0, none⟩), .int .i64 t] W fun e w' => e = .returned (.bool false) ∧ Xs w M none0 [u] w' ∧ Kept none0 W w') := fun M W k => by
    have := x_drop (okz_one h2) (by simp) t k
    rw [i3, rm_none i3] at this
    exact this
  have T6 : Hid (∀ M W, Xs w M none0 [t, u] W → Calls Try.prog 10 #[.pointer (some ⟨M, 0, none⟩)] W fun e w' => e = .returned (.tuple #[.int .i64 t, .bool true]) ∧ Xs w M none0 [u] w' ∧ Kept none0 W w') := fun M W k => x_signal (okz_two h1 h2 h3) (by simp) k
  have T7 : Hid (∀ M W, Xs w M none0 [u] W → Calls Try.prog 15 #[.pointer (some ⟨M, 0, none⟩), .int .i64 t] W fun e w' => e = .returned (.int .i64 14) ∧ Xs w M none0 [u, t] w' ∧ Kept none0 W w') := fun M W k => by
    have := x_wait (l := [u]) (by simp) t k
    rw [(wait_out h1 i3).1, (wait_out h1 i3).2] at this
    exact this
  have T9 : Hid (∀ M W, Xs w M none0 [u, t] W → Calls Try.prog 17 #[.pointer (some ⟨M, 0, none⟩)] W fun e w' => ∃ a c, e = .returned (.slice a 2 c) ∧ RowF (fun k => none0 k ∨ adr [u, t] a k) w' a [u, t] ∧ Xs w M (fun k => none0 k ∨ adr [u, t] a k) [u, t] w' ∧ Kept none0 W w') := fun M W k => x_waits (l := [u, t]) (by simp) k
  clear i1 i2 i3 r1 h h3
  cases b
  · go_enter Try.func5, Try.ntmps5
    go_wp2_with fail
    refine N0.out.mono ?_
    rintro e w1 ⟨rfl, hA⟩
    have HX := hide hA
    clear hA N0
    generalize w.heap.size = M at HX ⊢
    go_wp2_with fail
    refine (T1.out _ _ HX.out).mono ?_
    rintro e w2 ⟨rfl, hA, _⟩
    have HX2 := hide hA
    clear hA HX T1
    go_wp2_with fail
    refine (T2.out _ _ HX2.out).mono ?_
    rintro e w3 ⟨rfl, hA, _⟩
    have HX3 := hide hA
    clear hA HX2 T2
    go_wp2_with fail
    refine (T3.out _ _ HX3.out).mono ?_
    rintro e w4 ⟨rfl, hA, _⟩
    have HX4 := hide hA
    clear hA HX3 T3
    go_wp2_with fail
    refine (T6.out _ _ HX4.out).mono ?_
    rintro e w6 ⟨rfl, hA, _⟩
    have HX6 := hide hA
    clear hA HX4 T4 T5 T6
    have tt : (t != t) = false := by simp
    go_wp2_with fail
    refine (T7.out _ _ HX6.out).mono ?_
    rintro e w7 ⟨rfl, hA, _⟩
    have HX7 := hide hA
    clear hA HX6 T7
    go_wp2_with fail
    refine (HA.out _).mono ?_
    rintro e w8 ⟨rfl, hb⟩
    have HX8 := hide (HX7.out.below hb)
    clear hb HX7 HA
    go_wp2_with fail
    refine (T9.out _ _ HX8.out).mono ?_
    rintro e w9 ⟨a9, c9, rfl, hr, hA, _⟩
    have HX9 := hide hA.2.2
    have HI := hide (same_two a9 c9 u t w9 hr.row)
    clear hA hr T9 HX8
    go_wp2_with fail
    refine HI.out.mono ?_
    rintro e w10 ⟨rfl, hb⟩
    have HB := hide (below_next HX9.out hb)
    clear hb HI HX9
    go_wp2
    go_ret
    exact ⟨rfl, HB.out⟩
  · go_enter Try.func5, Try.ntmps5
    go_wp2_with fail
    refine N0.out.mono ?_
    rintro e w1 ⟨rfl, hA⟩
    have HX := hide hA
    clear hA N0
    generalize w.heap.size = M at HX ⊢
    go_wp2_with fail
    refine (T1.out _ _ HX.out).mono ?_
    rintro e w2 ⟨rfl, hA, _⟩
    have HX2 := hide hA
    clear hA HX T1
    go_wp2_with fail
    refine (T2.out _ _ HX2.out).mono ?_
    rintro e w3 ⟨rfl, hA, _⟩
    have HX3 := hide hA
    clear hA HX2 T2
    go_wp2_with fail
    refine (T3.out _ _ HX3.out).mono ?_
    rintro e w4 ⟨rfl, hA, _⟩
    have HX4 := hide hA
    clear hA HX3 T3
    go_wp2_with fail
    refine (T4.out _ _ HX4.out).mono ?_
    rintro e w5 ⟨rfl, hA, _⟩
    have HX5 := hide hA
    clear hA HX4 T4 T6
    go_wp2_with fail
    refine (T5.out _ _ HX5.out).mono ?_
    rintro e w6 ⟨rfl, hA, _⟩
    have HX6 := hide hA
    clear hA HX5 T5
    go_wp2_with fail
    refine (T7.out _ _ HX6.out).mono ?_
    rintro e w7 ⟨rfl, hA, _⟩
    have HX7 := hide hA
    clear hA HX6 T7
    go_wp2_with fail
    refine (HA.out _).mono ?_
    rintro e w8 ⟨rfl, hb⟩
    have HX8 := hide (HX7.out.below hb)
    clear hb HX7 HA
    go_wp2_with fail
    refine (T9.out _ _ HX8.out).mono ?_
    rintro e w9 ⟨a9, c9, rfl, hr, hA, _⟩
    have HX9 := hide hA.2.2
    have HI := hide (same_two a9 c9 u t w9 hr.row)
    clear hA hr T9 HX8
    go_wp2_with fail
    refine HI.out.mono ?_
    rintro e w10 ⟨rfl, hb⟩
    have HB := hide (below_next HX9.out hb)
    clear hb HI HX9
    go_wp2
    go_ret
    exact ⟨rfl, HB.out⟩

end Go.Proofs.Ytinfmchbcipbjaa
