/-
  The program's beside the document's: what a call of one leaves of both.
-/
import Derived.Test.YtgldhlcdnijecaaAwake
namespace Go.Proofs.Ytgldhlcdnijecaa
open Go.RowKit

/-- Both, behind a world in which there was none of them; F: blocks that are neither's. -/
def Bth (W0 : World) (M R : Nat) (F : Nat → Prop) (s : Sm) (l : Sm) (w : World) : Prop :=
  (W0.heap.size ≤ M ∧ W0.heap.size ≤ R) ∧ (∃ v u, AtS w M W0.heap.size v s ∧ AtR w R W0.heap.size u l ∧ (∀ j, Mine M v j → ¬ MineR R u j) ∧ ∀ k, F k → k < w.heap.size ∧ ¬ Mine M v k ∧ ¬ MineR R u k) ∧ Below W0.heap.size W0 w

section
variable {W0 w w' : World} {M R : Nat} {F G : Nat → Prop} {s s2 : Sm} {l l2 : Sm} {q : List Int} {v : Value} {u : Vs} {r : Value}
theorem Bth.below (h : Bth W0 M R F s l w) (k : Below w.heap.size w w') : Bth W0 M R F s l w' := by
  obtain ⟨h1, ⟨v, u, h2, h3, h4, h5⟩, h6⟩ := h
  exact ⟨h1, ⟨v, u, h2.below k, h3.below k, h4, fun j hj => ⟨Nat.lt_of_lt_of_le (h5 j hj).1 k.size, (h5 j hj).2⟩⟩, below_next h6 k⟩
theorem Bth.mono (h : Bth W0 M R F s l w) (k : ∀ i, G i → F i) : Bth W0 M R G s l w := by
  obtain ⟨h1, ⟨v, u, h2, h3, h4, h5⟩, h6⟩ := h
  exact ⟨h1, ⟨v, u, h2, h3, h4, fun j hj => h5 j (k j hj)⟩, h6⟩
theorem Bth.frame (h : Bth W0 M R F s l w) (k : Below w.heap.size w w') : Kept F w w' := by
  obtain ⟨_, ⟨v, u, _, _, _, h5⟩, _⟩ := h
  exact ⟨fun j hj => k.block j (h5 j hj).1, k.size⟩
theorem Bth.setS (h1 : W0.heap.size ≤ M ∧ W0.heap.size ≤ R) (h2 : AtS w M W0.heap.size v s) (h3 : AtR w R W0.heap.size u l) (h4 : ∀ j, Mine M v j → ¬ MineR R u j) (h5 : ∀ k, F k → k < w.heap.size ∧ ¬ Mine M v k ∧ ¬ MineR R u k) (h6 : Below W0.heap.size W0 w) (k : NowS M W0.heap.size v s2 w w') : Bth W0 M R F s2 l w' ∧ Kept F w w' := by
  have hlow := k.low h2 h1.1 (Nat.le_refl _) h6.size
  obtain ⟨v', k1, k2, k3⟩ := k
  have hz := k2.size
  refine ⟨⟨h1, ⟨v', u, k1, h3.keep fun j hj => k2.block j (h3.mine_lt hj) (fun q => h4 j q hj), fun j hj hr => ?_, fun j hj => ⟨Nat.lt_of_lt_of_le (h5 j hj).1 hz, fun q => ?_, (h5 j hj).2.2⟩⟩, h6.trans hlow⟩, fun j hj => k2.block j (h5 j hj).1 (h5 j hj).2.1, hz⟩
  · rcases k3 j hj with q2 | q2
    · have := h3.mine_lt hr; omega
    · exact h4 j q2 hr
  · rcases k3 j q with q2 | q2
    · have := (h5 j hj).1; omega
    · exact (h5 j hj).2.1 q2
theorem Bth.setA (h1 : W0.heap.size ≤ M ∧ W0.heap.size ≤ R) (h2 : AtS w M W0.heap.size v s) (h3 : AtR w R W0.heap.size u l) (h4 : ∀ j, Mine M v j → ¬ MineR R u j) (h5 : ∀ k, F k → k < w.heap.size ∧ ¬ Mine M v k ∧ ¬ MineR R u k) (h6 : Below W0.heap.size W0 w) (k : NowA M W0.heap.size v s2 q w r w') :
    ∃ a c, r = .slice a q.length c ∧ RowF (fun k => F k ∨ adr q a k) w' a q ∧ Bth W0 M R (fun k => F k ∨ adr q a k) s2 l w' ∧ Kept F w w' := by
  obtain ⟨k1, k2⟩ := k
  have hlow := k1.low h2 h1.1 (Nat.le_refl _) h6.size
  obtain ⟨a, c, rfl⟩ := owns_slice k2
  obtain ⟨v', m1, m2, m3⟩ := k1
  have hz := m2.size
  refine ⟨a, c, rfl, owned_row k2, ⟨h1, ⟨v', u, m1, h3.keep fun j hj => m2.block j (h3.mine_lt hj) (fun q => h4 j q hj), fun j hj hr => ?_, fun j hj => ?_⟩, h6.trans hlow⟩, fun j hj => m2.block j (h5 j hj).1 (h5 j hj).2.1, hz⟩
  · rcases m3 j hj with q2 | q2
    · have := h3.mine_lt hr; omega
    · exact h4 j q2 hr
  · rcases hj with hj | hj
    · refine ⟨Nat.lt_of_lt_of_le (h5 j hj).1 hz, fun q => ?_, (h5 j hj).2.2⟩
      rcases m3 j q with q2 | q2
      · have := (h5 j hj).1; omega
      · exact (h5 j hj).2.1 q2
    · have e := owned_adr (c := c) hj
      have hlt := k2.lt j e
      refine ⟨hlt.2, fun m => ?_, fun m => by have := h3.mine_lt m; omega⟩
      rcases m with m | m
      · rw [m] at e; exact row_box k2 m1.box (by decide) e
      · exact rows_apart m1.row k2 j m e
theorem Bth.setR (h1 : W0.heap.size ≤ M ∧ W0.heap.size ≤ R) (h2 : AtS w M W0.heap.size v s) (h3 : AtR w R W0.heap.size u l) (h4 : ∀ j, Mine M v j → ¬ MineR R u j) (h5 : ∀ k, F k → k < w.heap.size ∧ ¬ Mine M v k ∧ ¬ MineR R u k) (h6 : Below W0.heap.size W0 w) (k : NowR R W0.heap.size u l2 w w') : Bth W0 M R F s l2 w' ∧ Kept F w w' := by
  have hlow := k.low h3 h1.2 (Nat.le_refl _) h6.size
  obtain ⟨u', k1, k2, k3⟩ := k
  have hz := k2.size
  have key := k3
  refine ⟨⟨h1, ⟨v, u', h2.keep fun j hj => k2.block j (h2.mine_lt hj) (fun q => h4 j hj q), k1, fun j hj hr => ?_, fun j hj => ⟨Nat.lt_of_lt_of_le (h5 j hj).1 hz, (h5 j hj).2.1, fun q => ?_⟩⟩, h6.trans hlow⟩, fun j hj => k2.block j (h5 j hj).1 (h5 j hj).2.2, hz⟩
  · rcases key j hr with q2 | q2
    · have := h2.mine_lt hj; omega
    · exact h4 j hj q2
  · rcases key j q with q2 | q2
    · have := (h5 j hj).1; omega
    · exact (h5 j hj).2.2 q2
/-- A box that is new is neither's. -/
theorem Bth.boxed (h : Bth W0 M R none0 s l w) (o : Obj) : Bth W0 M R (fun k => k = w.heap.size) s l (w.alloc o) := by
  obtain ⟨h1, ⟨v, u, h2, h3, h4, _⟩, h6⟩ := h
  exact ⟨h1, ⟨v, u, h2.below (below1 _ _), h3.below (below1 _ _), h4, fun j hj => ⟨by rw [hj]; simp, fun m => by have := h2.mine_lt m; omega, fun m => by have := h3.mine_lt m; omega⟩⟩, h6.alloc h6.size _⟩
theorem Bth.drew (h : Bth W0 M R F s l w) : Bth W0 M R F s l w.drew := h.below (Below.refl _ _).drew
/-- Both, new. -/
theorem Bth.start {n : Int} {w1 w2 : World} (h : Xs W0 W0.heap.size none0 (newS n) w1) (hr : AtR w2 w1.heap.size w1.heap.size ⟨.slice none 0 0, .slice none 0 0⟩ (newS n)) (hb : Below w1.heap.size w1 w2) : Bth W0 W0.heap.size w1.heap.size none0 (newS n) (newS n) w2 := by
  obtain ⟨h1, ⟨v, h2, _⟩, h4⟩ := h
  have hz := h4.size
  refine ⟨⟨h1, hz⟩, ⟨v, _, h2.below hb, ⟨hr.box, owns_base hr.ra hz, owns_base hr.rb hz⟩, fun j hj hm => ?_, fun _ h => h.elim⟩, below_next h4 hb⟩
  have := h2.mine_lt hj
  rcases hm with q | q | q
  · omega
  · simp [Value.ownBlock] at q
  · simp [Value.ownBlock] at q

theorem b_try (hO : Okw s) (hl : s.q.length ≤ 1000) (t m : Int) (h : Bth W0 M R F s l w) : Calls Try.prog 19 #[.pointer (some ⟨M, 0, none⟩), .int .i64 t, .int .i64 m] w fun e w' => e = .returned (.int .i64 (tryE s t m)) ∧ Bth W0 M R F (tryS s t m) l w' ∧ Kept F w w' := by
  obtain ⟨h1, ⟨v, u, h2, h3, h4, h5⟩, h6⟩ := h
  exact (try_any M _ v s hO hl t m w h2).mono fun e w' k => ⟨k.1, Bth.setS h1 h2 h3 h4 h5 h6 k.2⟩
theorem b_acq (hO : Okw s) (hl : s.q.length ≤ 1000) (t m : Int) (h : Bth W0 M R F s l w) : Calls Try.prog 18 #[.pointer (some ⟨M, 0, none⟩), .int .i64 t, .int .i64 m] w fun e w' => e = .returned (.int .i64 (acqE s t m)) ∧ Bth W0 M R F (acqS s t m) l w' ∧ Kept F w w' := by
  obtain ⟨h1, ⟨v, u, h2, h3, h4, h5⟩, h6⟩ := h
  exact (acq_any M _ v s hO hl t m w h2 h6.size).mono fun e w' k => ⟨k.1, Bth.setS h1 h2 h3 h4 h5 h6 k.2⟩
theorem b_rel (hO : Okw s) (hl : s.q.length ≤ 1000) (m : Int) (h : Bth W0 M R F s l w) : Calls Try.prog 17 #[.pointer (some ⟨M, 0, none⟩), .int .i64 m] w fun e w' => ∃ a c, e = .returned (.tuple #[.slice a (relO s m).length c, .int .i64 (relE s m)]) ∧ RowF (fun k => F k ∨ adr (relO s m) a k) w' a (relO s m) ∧ Bth W0 M R (fun k => F k ∨ adr (relO s m) a k) (relS s m) l w' ∧ Kept F w w' := by
  obtain ⟨h1, ⟨v, u, h2, h3, h4, h5⟩, h6⟩ := h
  refine (rel_any M _ v s hO hl m w h2).mono fun e w' k => ?_
  obtain ⟨r, rfl, k2⟩ := k
  obtain ⟨a, c, rfl, q⟩ := Bth.setA h1 h2 h3 h4 h5 h6 k2
  exact ⟨a, c, rfl, q⟩
theorem b_drop (hO : Okw s) (hl : s.q.length ≤ 1000) (t : Int) (h : Bth W0 M R F s l w) : Calls Try.prog 16 #[.pointer (some ⟨M, 0, none⟩), .int .i64 t] w fun e w' => ∃ a c, e = .returned (.tuple #[.slice a (dropO s t).length c, .bool (dropB s t)]) ∧ RowF (fun k => F k ∨ adr (dropO s t) a k) w' a (dropO s t) ∧ Bth W0 M R (fun k => F k ∨ adr (dropO s t) a k) (dropS s t) l w' ∧ Kept F w w' := by
  obtain ⟨h1, ⟨v, u, h2, h3, h4, h5⟩, h6⟩ := h
  refine (drop_any M _ v s hO hl t w h2).mono fun e w' k => ?_
  obtain ⟨r, rfl, k2⟩ := k
  obtain ⟨a, c, rfl, q⟩ := Bth.setA h1 h2 h3 h4 h5 h6 k2
  exact ⟨a, c, rfl, q⟩
theorem b_free (h : Bth W0 M R F s l w) : Calls Try.prog 11 #[.pointer (some ⟨M, 0, none⟩)] w fun e w' => e = .returned (.int .i64 s.f) ∧ w' = w := by
  obtain ⟨h1, ⟨v, u, h2, h3, h4, h5⟩, h6⟩ := h
  exact free_any M _ v s w h2
theorem b_size (h : Bth W0 M R F s l w) : Calls Try.prog 12 #[.pointer (some ⟨M, 0, none⟩)] w fun e w' => e = .returned (.int .i64 s.n) ∧ w' = w := by
  obtain ⟨h1, ⟨v, u, h2, h3, h4, h5⟩, h6⟩ := h
  exact size_any M _ v s w h2
theorem b_waits (hl : s.q.length ≤ 1000) (h : Bth W0 M R F s l w) : Calls Try.prog 14 #[.pointer (some ⟨M, 0, none⟩)] w fun e w' => ∃ a c, e = .returned (.slice a (ts s.q).length c) ∧ RowZ w' a (ts s.q) ∧ Below w.heap.size w w' := by
  obtain ⟨h1, ⟨v, u, h2, h3, h4, h5⟩, h6⟩ := h
  refine (waits_any M _ v s hl w h2).mono fun e w' k => ?_
  obtain ⟨r, rfl, k2, k3⟩ := k
  obtain ⟨a, c, rfl⟩ := owns_slice k2
  exact ⟨a, c, rfl, owns_rowZ k2, k3⟩
theorem r_want (hO : Okw l) (hl : l.q.length ≤ 1000) (t m : Int) (b : Bool) (h : Bth W0 M R F s l w) : Calls Try.prog 21 #[.pointer (some ⟨R, 0, none⟩), .int .i64 t, .int .i64 m, .bool b] w fun e w' => e = .returned (.int .i64 (wantE b l t m)) ∧ Bth W0 M R F s (wantS b l t m) w' ∧ Kept F w w' := by
  obtain ⟨h1, ⟨v, u, h2, h3, h4, h5⟩, h6⟩ := h
  exact (want_any R _ u l hO hl t m b w h3 h6.size).mono fun e w' k => ⟨k.1, Bth.setR h1 h2 h3 h4 h5 h6 k.2⟩
theorem r_rel (hO : Okw l) (hl : l.q.length ≤ 1000) (m : Int) (h : Bth W0 M R F s l w) : Calls Try.prog 22 #[.pointer (some ⟨R, 0, none⟩), .int .i64 m] w fun e w' => ∃ a c, e = .returned (.tuple #[.slice a (relO l m).length c, .int .i64 (relE l m)]) ∧ RowZ w' a (relO l m) ∧ Bth W0 M R F s (relS l m) w' ∧ Kept F w w' := by
  obtain ⟨h1, ⟨v, u, h2, h3, h4, h5⟩, h6⟩ := h
  refine (rrel_any R _ u l hO hl m w h3 h6.size).mono fun e w' k => ?_
  obtain ⟨r, rfl, k2, k3⟩ := k
  obtain ⟨a, c, rfl⟩ := owns_slice k3
  exact ⟨a, c, rfl, owns_rowZ k3, Bth.setR h1 h2 h3 h4 h5 h6 k2⟩
theorem r_drop (hO : Okw l) (hl : l.q.length ≤ 1000) (t : Int) (h : Bth W0 M R F s l w) : Calls Try.prog 20 #[.pointer (some ⟨R, 0, none⟩), .int .i64 t] w fun e w' => ∃ a c, e = .returned (.tuple #[.slice a (dropO l t).length c, .bool (dropB l t)]) ∧ RowZ w' a (dropO l t) ∧ Bth W0 M R F s (dropS l t) w' ∧ Kept F w w' := by
  obtain ⟨h1, ⟨v, u, h2, h3, h4, h5⟩, h6⟩ := h
  refine (rdrop_any R _ u l hO hl t w h3 h6.size).mono fun e w' k => ?_
  obtain ⟨r, rfl, k2, k3⟩ := k
  obtain ⟨a, c, rfl⟩ := owns_slice k3
  exact ⟨a, c, rfl, owns_rowZ k3, Bth.setR h1 h2 h3 h4 h5 h6 k2⟩
/-- What the law reads of the document's box. -/
theorem Bth.reads (h : Bth W0 M R F s l w) : w.cell? ⟨R, 0, none⟩ = some (.int .i64 l.n) ∧ w.cell? ⟨R, 1, none⟩ = some (.int .i64 (l.n - l.f)) ∧ ∃ a c, w.cell? ⟨R, 2, none⟩ = some (.slice a (ts l.q).length c) ∧ RowZ w a (ts l.q) := by
  obtain ⟨h1, ⟨v, u, h2, h3, h4, h5⟩, h6⟩ := h
  obtain ⟨c0, c1, c2, _⟩ := h3.cells
  have hra := h3.q.ra
  obtain ⟨a, c, e⟩ := owns_slice hra
  rw [e] at c2 hra
  exact ⟨c0, c1, a, c, c2, owns_rowZ hra⟩
end

end Go.Proofs.Ytgldhlcdnijecaa
