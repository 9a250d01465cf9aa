/-
  What the program's Recv comes to.
-/
import Derived.Test.YtkjiompjfolipaaFun
namespace Go.Proofs.Ytkjiompjfolipaa
open Go.RowKit

set_option maxHeartbeats 400000 in
theorem recv_low (M : Nat) (x : Int) (h1 : x < 0) (w : World) : Calls Try.prog 12 #[.pointer (some ⟨M, 0, none⟩), .int .i64 x] w fun e w' => e = .returned (.tuple #[.int .i64 0, .int .i64 0, .int .i64 0, .int .i64 1]) ∧ w' = w := by
  go_enter Try.func12, Try.ntmps12
  go_wp2
  (try simp only [Exit.inBlock, Exit.then]); refine bodyPost_ret (results_tmp4 rfl _ _ _) rfl ?_
  exact ⟨rfl, rfl⟩

set_option maxHeartbeats 400000 in
theorem recv_end (M : Nat) (x : Int) (h1 : ¬ x < 0) (w : World) (c9 : w.cell? ⟨M, 9, none⟩ = some (.int .i64 x)) : Calls Try.prog 12 #[.pointer (some ⟨M, 0, none⟩), .int .i64 x] w fun e w' => e = .returned (.tuple #[.int .i64 0, .int .i64 0, .int .i64 x, .int .i64 18]) ∧ w' = w := by
  have h4 : ¬ x < x := by omega
  go_enter Try.func12, Try.ntmps12
  go_wp2
  (try simp only [Exit.inBlock, Exit.then]); refine bodyPost_ret (results_tmp4 rfl _ _ _) rfl ?_
  exact ⟨rfl, rfl⟩

set_option maxHeartbeats 400000 in
theorem recv_high (M L : Nat) (x : Int) (h1 : ¬ x < 0) (h4 : (L : Int) < x) (w : World) (c9 : w.cell? ⟨M, 9, none⟩ = some (.int .i64 (L : Int))) : Calls Try.prog 12 #[.pointer (some ⟨M, 0, none⟩), .int .i64 x] w fun e w' => e = .returned (.tuple #[.int .i64 0, .int .i64 0, .int .i64 0, .int .i64 1]) ∧ w' = w := by
  go_enter Try.func12, Try.ntmps12
  go_wp2
  (try simp only [Exit.inBlock, Exit.then]); refine bodyPost_ret (results_tmp4 rfl _ _ _) rfl ?_
  exact ⟨rfl, rfl⟩

set_option maxHeartbeats 2000000 in
theorem recv_in (M L K j f m : Nat) (V : Int) (hK : 1 ≤ K ∧ K ≤ 8) (hl : L ≤ 1000) (hj : j < L) (hf : f = max j (L - K)) (hm : f % K = m) (w : World) (hMl : M < w.heap.size)
    (c8 : w.cell? ⟨M, 8, none⟩ = some (.int .i64 ((K : Int) - 1))) (c9 : w.cell? ⟨M, 9, none⟩ = some (.int .i64 (L : Int))) (cv : w.cell? ⟨M, m, none⟩ = some (.int .i64 V)) :
    Calls Try.prog 12 #[.pointer (some ⟨M, 0, none⟩), .int .i64 (j : Int)] w fun e w' => e = .returned (.tuple #[.int .i64 V, .int .i64 ((f : Int) - (j : Int)), .int .i64 ((f : Int) + 1), .int .i64 0]) ∧ Below w.heap.size w w' := by
  have hmx : ∀ (ats : Array TypeId) (ty : TypeId), Builtin.max_ ats ty #[.int .i64 (j : Int), .int .i64 ((L : Int) - 1 - ((K : Int) - 1))] = pure (.int .i64 (f : Int)) := fun _ _ => by
    by_cases h : (j : Int) < (L : Int) - 1 - ((K : Int) - 1)
    · simp [Builtin.max_, Builtin.max2, h, show (f : Int) = (L : Int) - 1 - ((K : Int) - 1) by omega]
    · simp [Builtin.max_, Builtin.max2, h, show (f : Int) = (j : Int) by omega]
  have hfj : j ≤ f ∧ f < L := by omega
  have hm8 : m < 8 := by rw [← hm]; exact Nat.lt_of_lt_of_le (Nat.mod_lt _ (by omega)) hK.2
  have hP := hide (fun W => place_any M K hK f (by omega) W)
  rw [hm] at hP
  clear hm hf
  have j1 : ¬ (j : Int) < 0 := by omega
  have j2 : ¬ (L : Int) < (j : Int) := by omega
  have j3 : ¬ (j : Int) = (L : Int) := by omega
  have m0 : (0 : Int) ≤ (m : Int) := by omega
  have m8 : (m : Int) < 8 := by omega
  go_enter Try.func12, Try.ntmps12
  go_wp2_with fail
  go_quiet (fail)
  have hbW : Below w.heap.size w (w.drewN nq) := below_drewN _ _
  generalize w.drewN nq = w3 at hbW ⊢
  have d8 := ((bcell hbW).1 M 8 hMl).trans c8
  have dm := ((bcell hbW).1 M m hMl).trans cv
  clear c8 c9 cv
  go_wp2_with fail
  go_region_held3 (fun w' => w'.cell? ⟨M, 8, none⟩ = some (.int .i64 ((K : Int) - 1)) ∧ w'.cell? ⟨M, m, none⟩ = some (.int .i64 V)) (first | (constructor <;> assumption) | assumption | go_keep) (first | (go_at_call 16; refine (hP.out _ (by assumption)).mono ?_; rintro e w5 ⟨rfl, hw5⟩; subst hw5))
  go_wp2
  (try simp only [Exit.inBlock, Exit.then]); refine bodyPost_ret (results_tmp4 rfl _ _ _) rfl ?_
  refine ⟨?_, below_next hbW (Below.refl _ _).drew⟩
  show Ending.returned (Value.tuple #[.int .i64 V, .int .i64 (IntKind.i64.wrap ((f : Int) - (j : Int))), .int .i64 (IntKind.i64.wrap ((f : Int) + 1)), .int .i64 0]) = _
  rw [wrapB (n := (f : Int) - (j : Int)) (by omega), wrapB (n := (f : Int) + 1) (by omega)]

theorem recv_any (M : Nat) (s : Ps) (hO : Okp s) (hl : s.l.length ≤ 1000) (x : Int) (w : World) (hM : AtM w M s) : Calls Try.prog 12 #[.pointer (some ⟨M, 0, none⟩), .int .i64 x] w fun e w' => e = .returned (.tuple #[.int .i64 (rcvV s x), .int .i64 (rcvL s x), .int .i64 (rcvA s x), .int .i64 (rcvE s x)]) ∧ Below w.heap.size w w' := by
  obtain ⟨c8, c9, _⟩ := hM.cells
  cases hb : inP s x
  · rcases in_no hb with h1 | ⟨h1, h2⟩
    · obtain ⟨e1, e2, e3, e4⟩ := rcv_no (s := s) (x := x) (Or.inl h1)
      rw [e1, e2, e3, e4]
      exact (recv_low M x h1 w).mono fun _ _ k => ⟨k.1, by rw [k.2]; exact Below.refl _ _⟩
    · by_cases h3 : x = (s.l.length : Int)
      · obtain ⟨e1, e2, e3, e4⟩ := rcv_end h3
        rw [e1, e2, e3, e4]
        exact (recv_end M x (by omega) w (by rw [h3]; exact c9)).mono fun _ _ k => ⟨k.1, by rw [k.2]; exact Below.refl _ _⟩
      · obtain ⟨e1, e2, e3, e4⟩ := rcv_no (s := s) (x := x) (Or.inr (by omega))
        rw [e1, e2, e3, e4]
        exact (recv_high M s.l.length x (by omega) (by omega) w c9).mono fun _ _ k => ⟨k.1, by rw [k.2]; exact Below.refl _ _⟩
  · obtain ⟨e1, e2, e3, e4⟩ := rcv_yes hb
    rw [e1, e2, e3, e4]
    obtain ⟨j, rfl, hj, hF⟩ := in_yes hb
    exact recv_in M s.l.length s.k j (rcvF s (j : Int)) _ _ hO hl hj hF rfl w hM.lt c8 c9 (hM.value hO (by have := hO.1; omega) (by omega))

end Go.Proofs.Ytkjiompjfolipaa
