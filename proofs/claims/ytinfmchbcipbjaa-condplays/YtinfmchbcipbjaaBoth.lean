/-
  The program's beside the document's: what a call of one leaves of both.
-/
import Derived.Test.YtinfmchbcipbjaaXs
namespace Go.Proofs.Ytinfmchbcipbjaa
open Go.RowKit

/-- Both, behind a world in which there was none of them; F: blocks that are neither's. -/
def Bth (W0 : World) (M R : Nat) (F : Nat → Prop) (l : List Int) (q : Q) (w : World) : Prop :=
  (W0.heap.size ≤ M ∧ W0.heap.size ≤ R) ∧ (∃ v u, AtM w M W0.heap.size v l ∧ AtR w R W0.heap.size u q ∧ (∀ j, Mine M v j → ¬ MineR R u j) ∧ ∀ k, F k → k < w.heap.size ∧ ¬ Mine M v k ∧ ¬ MineR R u k) ∧ Below W0.heap.size W0 w

section
variable {W0 w w' : World} {M R : Nat} {F G : Nat → Prop} {l l2 : List Int} {q q2 : Q} {v : Value} {u : Vs} {r : Value} {p : List Int}
theorem Bth.below (h : Bth W0 M R F l q w) (k : Below w.heap.size w w') : Bth W0 M R F l q w' := by
  obtain ⟨h1, ⟨v, u, h2, h3, h4, h5⟩, h6⟩ := h
  exact ⟨h1, ⟨v, u, h2.below k, h3.below k, h4, fun j hj => ⟨Nat.lt_of_lt_of_le (h5 j hj).1 k.size, (h5 j hj).2⟩⟩, below_next h6 k⟩
theorem Bth.mono (h : Bth W0 M R F l q w) (k : ∀ i, G i → F i) : Bth W0 M R G l q w := by
  obtain ⟨h1, ⟨v, u, h2, h3, h4, h5⟩, h6⟩ := h
  exact ⟨h1, ⟨v, u, h2, h3, h4, fun j hj => h5 j (k j hj)⟩, h6⟩
theorem Bth.frame (h : Bth W0 M R F l q w) (k : Below w.heap.size w w') : Kept F w w' := by
  obtain ⟨_, ⟨v, u, _, _, _, h5⟩, _⟩ := h
  exact ⟨fun j hj => k.block j (h5 j hj).1, k.size⟩
theorem Bth.setM (h1 : W0.heap.size ≤ M ∧ W0.heap.size ≤ R) (h2 : AtM w M W0.heap.size v l) (h3 : AtR w R W0.heap.size u q) (h4 : ∀ j, Mine M v j → ¬ MineR R u j) (h5 : ∀ k, F k → k < w.heap.size ∧ ¬ Mine M v k ∧ ¬ MineR R u k) (h6 : Below W0.heap.size W0 w) (k : NowM M W0.heap.size v l2 w w') : Bth W0 M R F l2 q w' ∧ Kept F w w' := by
  have hlow := k.low h2 h1.1 (Nat.le_refl _) h6.size
  obtain ⟨v', k1, k2, k3⟩ := k
  have hz := k2.size
  refine ⟨⟨h1, ⟨v', u, k1, h3.keep fun j hj => k2.block j (h3.mine_lt hj) (fun q => h4 j q hj), fun j hj hr => ?_, fun j hj => ⟨Nat.lt_of_lt_of_le (h5 j hj).1 hz, fun q => ?_, (h5 j hj).2.2⟩⟩, h6.trans hlow⟩, fun j hj => k2.block j (h5 j hj).1 (h5 j hj).2.1, hz⟩
  · rcases k3 j hj with q2 | q2
    · have := h3.mine_lt hr; omega
    · exact h4 j q2 hr
  · rcases k3 j q with q2 | q2
    · have := (h5 j hj).1; omega
    · exact (h5 j hj).2.1 q2
theorem Bth.setR (h1 : W0.heap.size ≤ M ∧ W0.heap.size ≤ R) (h2 : AtM w M W0.heap.size v l) (h3 : AtR w R W0.heap.size u q) (h4 : ∀ j, Mine M v j → ¬ MineR R u j) (h5 : ∀ k, F k → k < w.heap.size ∧ ¬ Mine M v k ∧ ¬ MineR R u k) (h6 : Below W0.heap.size W0 w) (k : NowR R W0.heap.size u q2 w w') : Bth W0 M R F l q2 w' ∧ Kept F w w' := by
  have hlow := k.low h3 h1.2 (Nat.le_refl _) h6.size
  obtain ⟨u', k1, k2, k3⟩ := k
  have hz := k2.size
  have key := k3
  refine ⟨⟨h1, ⟨v, u', h2.keep fun j hj => k2.block j (h2.mine_lt hj) (fun q => h4 j hj q), k1, fun j hj hr => ?_, fun j hj => ⟨Nat.lt_of_lt_of_le (h5 j hj).1 hz, (h5 j hj).2.1, fun q => ?_⟩⟩, h6.trans hlow⟩, fun j hj => k2.block j (h5 j hj).1 (h5 j hj).2.2, hz⟩
  · rcases key j hr with q2 | q2
    · have := h2.mine_lt hj; omega
    · exact h4 j hj q2
  · rcases key j q with q2 | q2
    · have := (h5 j hj).1; omega
    · exact (h5 j hj).2.2 q2
/-- What is answered joins the frame. -/
theorem Bth.join (h : Bth W0 M R F l q w) {base : Nat} {a : Option Addr} {c : Nat} (hg : w.heap.size ≤ base) (ho : w'.ownsRow base 3 1 (.slice a p.length c) p.length (cZ p)) (k : Below w.heap.size w w') : Bth W0 M R (fun k => F k ∨ adr p a k) l q w' := by
  obtain ⟨h1, ⟨v, u, h2, h3, h4, h5⟩, h6⟩ := h
  refine ⟨h1, ⟨v, u, h2.below k, h3.below k, h4, fun j hj => ?_⟩, below_next h6 k⟩
  rcases hj with hj | hj
  · exact ⟨Nat.lt_of_lt_of_le (h5 j hj).1 k.size, (h5 j hj).2⟩
  · have e := ho.lt j (owned_adr (c := c) hj)
    exact ⟨e.2, fun m => by have := h2.mine_lt m; omega, fun m => by have := h3.mine_lt m; omega⟩
/-- A box that is new is neither's. -/
theorem Bth.boxed (h : Bth W0 M R none0 l q w) (o : Obj) : Bth W0 M R (fun k => k = w.heap.size) l q (w.alloc o) := by
  obtain ⟨h1, ⟨v, u, h2, h3, h4, _⟩, h6⟩ := h
  exact ⟨h1, ⟨v, u, h2.below (below1 _ _), h3.below (below1 _ _), h4, fun j hj => ⟨by rw [hj]; simp, fun m => by have := h2.mine_lt m; omega, fun m => by have := h3.mine_lt m; omega⟩⟩, h6.alloc h6.size _⟩
theorem Bth.drew (h : Bth W0 M R F l q w) : Bth W0 M R F l q w.drew := h.below (Below.refl _ _).drew
/-- Both, new. -/
theorem Bth.start {w1 : World} (h : Xs W0 W0.heap.size none0 [] w1) : Bth W0 W0.heap.size w1.heap.size none0 [] [] (w1.alloc (.cells #[.slice none 0 0, .slice none 0 0] 29)) := by
  obtain ⟨h1, ⟨v, h2, _⟩, h4⟩ := h
  have hz := h4.size
  have hb := below1 w1 (.cells #[.slice none 0 0, .slice none 0 0] 29)
  refine ⟨⟨h1, hz⟩, ⟨v, ⟨.slice none 0 0, .slice none 0 0⟩, h2.below hb, ⟨heap_alloc_new _ _, World.ownsRow_nil _ _ _ _, World.ownsRow_nil _ _ _ _⟩, fun j hj hm => ?_, fun _ h => h.elim⟩, below_next h4 hb⟩
  have := h2.mine_lt hj
  rcases hm with q | q | q
  · omega
  · simp [Value.ownBlock] at q
  · simp [Value.ownBlock] at q

theorem b_drop (hO : Okz l) (hl : l.length ≤ 1000) (t : Int) (h : Bth W0 M R F l q w) : Calls Try.prog 8 #[.pointer (some ⟨M, 0, none⟩), .int .i64 t] w fun e w' => e = .returned (.bool (inZ l t)) ∧ Bth W0 M R F (rmZ l t) q w' ∧ Kept F w w' := by
  obtain ⟨h1, ⟨v, u, h2, h3, h4, h5⟩, h6⟩ := h
  exact (drop_any M _ v l hl hO.nd t w h2).mono fun e w' k => ⟨k.1, Bth.setM h1 h2 h3 h4 h5 h6 k.2⟩
theorem b_wait (hl : l.length ≤ 1000) (t : Int) (h : Bth W0 M R F l q w) : Calls Try.prog 15 #[.pointer (some ⟨M, 0, none⟩), .int .i64 t] w fun e w' => e = .returned (.int .i64 (waitE l t)) ∧ Bth W0 M R F (waitL l t) q w' ∧ Kept F w w' := by
  obtain ⟨h1, ⟨v, u, h2, h3, h4, h5⟩, h6⟩ := h
  exact (wait_any M _ v l hl t w h2 h6.size).mono fun e w' k => ⟨k.1, Bth.setM h1 h2 h3 h4 h5 h6 k.2⟩
theorem b_signal (hO : Okz l) (hl : l.length ≤ 1000) (h : Bth W0 M R F l q w) : Calls Try.prog 10 #[.pointer (some ⟨M, 0, none⟩)] w fun e w' => e = .returned (.tuple #[.int .i64 (hold l), .bool (some1 l)]) ∧ Bth W0 M R F l.tail q w' ∧ Kept F w w' := by
  obtain ⟨h1, ⟨v, u, h2, h3, h4, h5⟩, h6⟩ := h
  exact (signal_any M _ v l hO hl w h2).mono fun e w' k => ⟨k.1, Bth.setM h1 h2 h3 h4 h5 h6 k.2⟩
theorem b_waits (hl : l.length ≤ 1000) (h : Bth W0 M R F l q w) : Calls Try.prog 17 #[.pointer (some ⟨M, 0, none⟩)] w fun e w' => ∃ a c, e = .returned (.slice a l.length c) ∧ RowZ w' a l ∧ Below w.heap.size w w' := by
  obtain ⟨h1, ⟨v, u, h2, h3, h4, h5⟩, h6⟩ := h
  refine (waits_any M _ v l hl w h2).mono fun e w' k => ?_
  obtain ⟨r, rfl, k2, k3⟩ := k
  obtain ⟨a, c, rfl⟩ := owns_slice k2
  exact ⟨a, c, rfl, owns_rowZ k2, k3⟩
theorem b_broad (h : Bth W0 M R F l q w) : Calls Try.prog 14 #[.pointer (some ⟨M, 0, none⟩)] w fun e w' => ∃ a c, e = .returned (.slice a l.length c) ∧ RowZ w' a l ∧ Bth W0 M R F [] q w' ∧ Kept F w w' := by
  obtain ⟨h1, ⟨v, u, h2, h3, h4, h5⟩, h6⟩ := h
  refine (broad_any M _ v l w h2).mono fun e w' k => ?_
  obtain ⟨rfl, rfl⟩ := k
  obtain ⟨q1, q2, q3⟩ := broad_now h2
  have hm : ∀ k, F k → ¬ k = M := fun k hk e => (h5 k hk).2.1 (Or.inl e)
  have hr : ∀ k, MineR R u k → ¬ k = M := fun k hk e => h4 k (Or.inl e) hk
  obtain ⟨a, c, rfl⟩ := owns_slice q2
  refine ⟨a, c, rfl, owns_rowZ q2, ⟨h1, ⟨_, u, q1, h3.keep fun j hj => q3.block j (h3.mine_lt hj) (hr j hj), fun j hj => ?_, fun j hj => ⟨Nat.lt_of_lt_of_le (h5 j hj).1 q3.size, fun m => ?_, (h5 j hj).2.2⟩⟩, h6.trans (q3.below h6.size fun k e => by rw [e]; exact h1.1)⟩, fun j hj => q3.block j (h5 j hj).1 (hm j hj), q3.size⟩
  · rcases hj with m | m
    · exact h4 j (Or.inl m)
    · simp [Value.ownBlock] at m
  · rcases m with m | m
    · exact hm j hj m
    · simp [Value.ownBlock] at m
theorem r_drop (hI : Inv q) (hl : q.length ≤ 1000) (t : Int) (h : Bth W0 M R F l q w) : Calls Try.prog 9 #[.pointer (some ⟨R, 0, none⟩), .int .i64 t] w fun e w' => e = .returned (.bool (inZ (wts q) t)) ∧ Bth W0 M R F l (offQ q t) w' ∧ Kept F w w' := by
  obtain ⟨h1, ⟨v, u, h2, h3, h4, h5⟩, h6⟩ := h
  exact (rdrop_any R _ u q hI hl t w h3).mono fun e w' k => ⟨k.1, Bth.setR h1 h2 h3 h4 h5 h6 k.2⟩
theorem r_wait (hI : Inv q) (hl : q.length ≤ 1000) (t : Int) (h : Bth W0 M R F l q w) : Calls Try.prog 16 #[.pointer (some ⟨R, 0, none⟩), .int .i64 t] w fun e w' => e = .returned (.int .i64 (waitE (wts q) t)) ∧ Bth W0 M R F l (waitQ q t) w' ∧ Kept F w w' := by
  obtain ⟨h1, ⟨v, u, h2, h3, h4, h5⟩, h6⟩ := h
  exact (rwait_any R _ u q hI hl t w h3 h6.size).mono fun e w' k => ⟨k.1, Bth.setR h1 h2 h3 h4 h5 h6 k.2⟩
theorem r_signal (hI : Inv q) (hl : q.length ≤ 1000) (h : Bth W0 M R F l q w) : Calls Try.prog 11 #[.pointer (some ⟨R, 0, none⟩)] w fun e w' => e = .returned (.tuple #[.int .i64 (hold (wts q)), .bool (some1 (wts q))]) ∧ Bth W0 M R F l (offQ q (hold (wts q))) w' ∧ Kept F w w' := by
  obtain ⟨h1, ⟨v, u, h2, h3, h4, h5⟩, h6⟩ := h
  exact (rsignal_any R _ u q hI hl w h3).mono fun e w' k => ⟨k.1, Bth.setR h1 h2 h3 h4 h5 h6 k.2⟩
theorem r_waits (hl : q.length ≤ 1000) (h : Bth W0 M R F l q w) : Calls Try.prog 12 #[.pointer (some ⟨R, 0, none⟩)] w fun e w' => ∃ a c, e = .returned (.slice a (wts q).length c) ∧ RowF (fun k => F k ∨ adr (wts q) a k) w' a (wts q) ∧ Bth W0 M R (fun k => F k ∨ adr (wts q) a k) l q w' ∧ Below w.heap.size w w' := by
  have h' := h
  obtain ⟨h1, ⟨v, u, h2, h3, h4, h5⟩, h6⟩ := h
  refine (rwaits_any R _ u q hl w h3).mono fun e w' k => ?_
  obtain ⟨r, rfl, k2, k3⟩ := k
  obtain ⟨a, c, rfl⟩ := owns_slice k2
  exact ⟨a, c, rfl, owned_row k2, h'.join (Nat.le_refl _) k2 k3, k3⟩
end

end Go.Proofs.Ytinfmchbcipbjaa
