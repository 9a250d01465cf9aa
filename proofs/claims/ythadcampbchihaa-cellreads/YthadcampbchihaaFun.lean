/-
  What the program's calls come to.
-/
import Derived.Test.YthadcampbchihaaBase
import Derived.Deep.DeepCutAuto
namespace Go.Proofs.Ythadcampbchihaa
open Go.RowKit

set_option maxHeartbeats 1000000 in
theorem new_any (n : Int) (w : World) : Calls Try.prog 7 #[.int .i64 n] w fun e w' => e = .returned (.pointer (some ⟨w.heap.size, 0, none⟩)) ∧ AtM w' w.heap.size (ws0 (cut4 n)) ∧ Below w.heap.size w w' := by
  obtain ⟨M, hM⟩ : ∃ M : Int, M = max n 1 := ⟨_, rfl⟩
  have hN : ((cut4 n : Nat) : Int) = min M 4 := by rw [cut4_eq, hM]
  have hmx : ∀ (ats : Array TypeId) (ty : TypeId), Builtin.max_ ats ty #[.int .i64 n, .int .i64 1] = pure (.int .i64 M) := fun _ _ => by
    by_cases h : n < 1
    · simp [Builtin.max_, Builtin.max2, h, show M = 1 by omega]
    · simp [Builtin.max_, Builtin.max2, h, show M = n by omega]
  have hmn : ∀ (ats : Array TypeId) (ty : TypeId), Builtin.min_ ats ty #[.int .i64 M, .int .i64 4] = pure (.int .i64 ((cut4 n : Nat) : Int)) := fun _ _ => by
    by_cases h : 4 < M
    · simp [Builtin.min_, Builtin.min2, h, show ((cut4 n : Nat) : Int) = 4 by omega]
    · simp [Builtin.min_, Builtin.min2, h, show ((cut4 n : Nat) : Int) = M by omega]
  clear hM hN
  generalize cut4 n = N at *
  go_enter Try.func7, Try.ntmps7
  go_wp2
  go_ret
  refine ⟨rfl, ?_, (Below.refl _ _).alloc (Nat.le_refl _) _⟩
  unfold AtM
  simp only [ws0, gz_zeros, List.length_replicate]
  exact heap_alloc_new _ _

set_option maxHeartbeats 400000 in
theorem writer_any (M : Nat) (s : Ws) (w : World) (hM : AtM w M s) : Calls Try.prog 10 #[.pointer (some ⟨M, 0, none⟩)] w fun e w' => e = .returned (.int .i64 s.wr) ∧ w' = w := by
  obtain ⟨_, _, c6, _⟩ := hM.cells
  clear hM
  generalize s.wr = W at *
  go_enter Try.func10, Try.ntmps10
  go_wp2
  go_ret
  exact ⟨rfl, rfl⟩
set_option maxHeartbeats 400000 in
theorem size_any (M : Nat) (s : Ws) (w : World) (hM : AtM w M s) : Calls Try.prog 11 #[.pointer (some ⟨M, 0, none⟩)] w fun e w' => e = .returned (.int .i64 (s.l.length : Int)) ∧ w' = w := by
  obtain ⟨c4, _, _, _⟩ := hM.cells
  clear hM
  generalize s.l.length = W at *
  go_enter Try.func11, Try.ntmps11
  go_wp2
  go_ret
  exact ⟨rfl, rfl⟩
set_option maxHeartbeats 400000 in
theorem start_any (M : Nat) (s : Ws) (w : World) (hM : AtM w M s) : Calls Try.prog 14 #[.pointer (some ⟨M, 0, none⟩)] w fun e w' => e = .returned (.tuple #[.int .i64 (staN s), .int .i64 (staE s)]) ∧ w' = w := by
  obtain ⟨_, c5, c6, _⟩ := hM.cells
  clear hM
  by_cases h0 : s.wr = 0
  · rw [show staN s = 2 * s.e from if_pos h0, show staE s = 0 from if_pos h0]
    rw [show s.sq = 2 * s.e from if_pos h0] at c5
    rw [h0] at c6
    generalize 2 * s.e = Q at *
    go_enter Try.func14, Try.ntmps14
    go_wp2
    go_ret2
    exact ⟨rfl, rfl⟩
  · rw [show staN s = 0 from if_neg h0, show staE s = 17 from if_neg h0]
    generalize s.wr = W at *
    go_enter Try.func14, Try.ntmps14
    go_wp2
    go_ret2
    exact ⟨rfl, rfl⟩
set_option maxHeartbeats 400000 in
theorem same_any (M : Nat) (s : Ws) (q : Int) (w : World) (hM : AtM w M s) : Calls Try.prog 16 #[.pointer (some ⟨M, 0, none⟩), .int .i64 q] w fun e w' => e = .returned (.int .i64 (samE s q)) ∧ w' = w := by
  obtain ⟨_, c5, c6, _⟩ := hM.cells
  clear hM
  by_cases h0 : s.wr = 0
  · rw [show s.sq = 2 * s.e from if_pos h0] at c5
    by_cases h1 : q = 2 * s.e
    · rw [show samE s q = 0 from if_pos ⟨h0, h1⟩]
      rw [h0] at c6
      rw [← h1] at c5
      clear h0 h1
      go_enter Try.func16, Try.ntmps16
      go_wp2
      go_ret
      exact ⟨rfl, rfl⟩
    · rw [show samE s q = 17 from if_neg fun k => h1 k.2]
      rw [h0] at c6
      clear h0
      generalize 2 * s.e = Q at *
      go_enter Try.func16, Try.ntmps16
      go_wp2
      go_ret
      exact ⟨rfl, rfl⟩
  · rw [show samE s q = 17 from if_neg fun k => h0 k.1]
    generalize s.wr = W at *
    generalize s.sq = Q at *
    by_cases h1 : q = Q
    · subst h1
      go_enter Try.func16, Try.ntmps16
      go_wp2
      go_ret
      exact ⟨rfl, rfl⟩
    · go_enter Try.func16, Try.ntmps16
      go_wp2
      go_ret
      exact ⟨rfl, rfl⟩
set_option maxHeartbeats 400000 in
theorem has_any (M : Nat) (s : Ws) (i : Int) (w : World) (hM : AtM w M s) : Calls Try.prog 26 #[.pointer (some ⟨M, 0, none⟩), .int .i64 i] w fun e w' => e = .returned (.bool (hasI s.l i)) ∧ w' = w := by
  obtain ⟨c4, _, _, _⟩ := hM.cells
  clear hM
  cases hb : hasI s.l i
  · rcases has_not hb with h | ⟨h1, h2⟩
    · have h' : ¬ (0 : Int) ≤ i := by omega
      go_enter Try.func26, Try.ntmps26
      go_wp2
      go_ret
      exact ⟨rfl, rfl⟩
    · go_enter Try.func26, Try.ntmps26
      go_wp2
      go_ret
      exact ⟨rfl, rfl⟩
  · obtain ⟨k, rfl, hk⟩ := has_at hb
    have h1 : (0 : Int) ≤ (k : Int) := by omega
    have h2 : (k : Int) < (s.l.length : Int) := by omega
    go_enter Try.func26, Try.ntmps26
    go_wp2
    go_ret
    exact ⟨rfl, rfl⟩
set_option maxHeartbeats 1000000 in
theorem word_any (M : Nat) (s : Ws) (h4 : s.l.length ≤ 4) (i : Int) (w : World) (hM : AtM w M s) : Calls Try.prog 15 #[.pointer (some ⟨M, 0, none⟩), .int .i64 i] w fun e w' => e = .returned (.tuple #[.int .i64 (wrdN s.l i), .int .i64 (wrdE s.l i)]) ∧ w' = w := by
  have HH := hide (has_any M s i w hM)
  cases hb : hasI s.l i
  · rw [hb] at HH
    rw [show wrdN s.l i = 0 from if_neg (by simp [hb]), show wrdE s.l i = 1 from if_neg (by simp [hb])]
    clear hM hb
    go_enter Try.func15, Try.ntmps15
    go_wp2_with fail
    refine HH.out.mono ?_
    rintro e w2 ⟨rfl, hw2⟩
    subst hw2
    go_wp2
    go_ret2
    exact ⟨rfl, rfl⟩
  · obtain ⟨k, rfl, hk⟩ := has_at hb
    rw [hb] at HH
    rw [show wrdN s.l (k : Int) = gz s.l k from if_pos hb, show wrdE s.l (k : Int) = 0 from if_pos hb]
    have ck := hM.word (k := k) (by omega)
    have h1 : (0 : Int) ≤ (k : Int) := by omega
    have h2 : (k : Int) < 4 := by omega
    clear hM hb
    generalize gz s.l k = G at *
    go_enter Try.func15, Try.ntmps15
    go_wp2_with fail
    refine HH.out.mono ?_
    rintro e w2 ⟨rfl, hw2⟩
    subst hw2
    go_wp2
    go_ret2
    exact ⟨rfl, rfl⟩

end Go.Proofs.Ythadcampbchihaa
