/-
  The program's beside the document's: what a call of one leaves of both.
-/
import Derived.Test.YtgfkleaekaggoaaXs
import Derived.Test.YtgfkleaekaggoaaRefWait
namespace Go.Proofs.Ytgfkleaekaggoaa
open Go.RowKit

/-- Both, behind a world in which there was none of them; F: blocks that are neither's. -/
def Bth (W0 : World) (M R : Nat) (F : Nat → Prop) (c : Int) (l : List Int) (o d : Int) (q : List Int) (w : World) : Prop :=
  (W0.heap.size ≤ M ∧ W0.heap.size ≤ R) ∧ (∃ v u, AtM w M W0.heap.size v c l ∧ AtR w R W0.heap.size u o d q ∧ (∀ j, Mine M v j → ¬ Mine R u j) ∧ ∀ k, F k → k < w.heap.size ∧ ¬ Mine M v k ∧ ¬ Mine R u k) ∧ Below W0.heap.size W0 w

section
variable {W0 w w' : World} {M R : Nat} {F G : Nat → Prop} {l l2 q q2 : List Int} {c c2 o o2 d d2 : Int} {v u : Value}
theorem Bth.below (h : Bth W0 M R F c l o d q w) (k : Below w.heap.size w w') : Bth W0 M R F c l o d q w' := by
  obtain ⟨h1, ⟨v, u, h2, h3, h4, h5⟩, h6⟩ := h
  exact ⟨h1, ⟨v, u, h2.below k, h3.below k, h4, fun j hj => ⟨Nat.lt_of_lt_of_le (h5 j hj).1 k.size, (h5 j hj).2⟩⟩, below_next h6 k⟩
theorem Bth.mono (h : Bth W0 M R F c l o d q w) (k : ∀ i, G i → F i) : Bth W0 M R G c l o d q w := by
  obtain ⟨h1, ⟨v, u, h2, h3, h4, h5⟩, h6⟩ := h
  exact ⟨h1, ⟨v, u, h2, h3, h4, fun j hj => h5 j (k j hj)⟩, h6⟩
theorem Bth.frame (h : Bth W0 M R F c l o d q w) (k : Below w.heap.size w w') : Kept F w w' := by
  obtain ⟨_, ⟨v, u, _, _, _, h5⟩, _⟩ := h
  exact ⟨fun j hj => k.block j (h5 j hj).1, k.size⟩
theorem Bth.setM (h1 : W0.heap.size ≤ M ∧ W0.heap.size ≤ R) (h2 : AtM w M W0.heap.size v c l) (h3 : AtR w R W0.heap.size u o d q) (h4 : ∀ j, Mine M v j → ¬ Mine R u j) (h5 : ∀ k, F k → k < w.heap.size ∧ ¬ Mine M v k ∧ ¬ Mine R u k) (h6 : Below W0.heap.size W0 w) (k : NowM M W0.heap.size v c2 l2 w w') : Bth W0 M R F c2 l2 o d q w' ∧ Kept F w w' := by
  have hlow := k.low h2 h1.1 (Nat.le_refl _) h6.size
  obtain ⟨v', k1, k2, k3⟩ := k
  have hz := k2.size
  have key : ∀ j, Mine M v' j → w.heap.size ≤ j ∨ Mine M v j := fun j hj => by
    rcases hj with e | e
    · exact Or.inr (Or.inl e)
    · rcases k3 j e with e2 | e2
      · exact Or.inl e2
      · exact Or.inr (Or.inr e2)
  refine ⟨⟨h1, ⟨v', u, k1, h3.keep fun j hj => k2.block j (h3.mine_lt hj) (fun q => h4 j q hj), fun j hj hr => ?_, fun j hj => ⟨Nat.lt_of_lt_of_le (h5 j hj).1 hz, fun q => ?_, (h5 j hj).2.2⟩⟩, h6.trans hlow⟩, fun j hj => k2.block j (h5 j hj).1 (h5 j hj).2.1, hz⟩
  · rcases key j hj with q2 | q2
    · have := h3.mine_lt hr; omega
    · exact h4 j q2 hr
  · rcases key j q with q2 | q2
    · have := (h5 j hj).1; omega
    · exact (h5 j hj).2.1 q2
theorem Bth.setR (h1 : W0.heap.size ≤ M ∧ W0.heap.size ≤ R) (h2 : AtM w M W0.heap.size v c l) (h3 : AtR w R W0.heap.size u o d q) (h4 : ∀ j, Mine M v j → ¬ Mine R u j) (h5 : ∀ k, F k → k < w.heap.size ∧ ¬ Mine M v k ∧ ¬ Mine R u k) (h6 : Below W0.heap.size W0 w) (k : NowR R W0.heap.size u o2 d2 q2 w w') : Bth W0 M R F c l o2 d2 q2 w' ∧ Kept F w w' := by
  have hlow := k.low h3 h1.2 (Nat.le_refl _) h6.size
  obtain ⟨u', k1, k2, k3⟩ := k
  have hz := k2.size
  have key : ∀ j, Mine R u' j → w.heap.size ≤ j ∨ Mine R u j := fun j hj => by
    rcases hj with e | e
    · exact Or.inr (Or.inl e)
    · rcases k3 j e with e2 | e2
      · exact Or.inl e2
      · exact Or.inr (Or.inr e2)
  refine ⟨⟨h1, ⟨v, u', h2.keep fun j hj => k2.block j (h2.mine_lt hj) (fun q => h4 j hj q), k1, fun j hj hr => ?_, fun j hj => ⟨Nat.lt_of_lt_of_le (h5 j hj).1 hz, (h5 j hj).2.1, fun q => ?_⟩⟩, h6.trans hlow⟩, fun j hj => k2.block j (h5 j hj).1 (h5 j hj).2.2, hz⟩
  · rcases key j hr with q2 | q2
    · have := h2.mine_lt hj; omega
    · exact h4 j hj q2
  · rcases key j q with q2 | q2
    · have := (h5 j hj).1; omega
    · exact (h5 j hj).2.2 q2
/-- A box that is new is neither's. -/
theorem Bth.boxed (h : Bth W0 M R none0 c l o d q w) (ob : Obj) : Bth W0 M R (fun k => k = w.heap.size) c l o d q (w.alloc ob) := by
  obtain ⟨h1, ⟨v, u, h2, h3, h4, _⟩, h6⟩ := h
  exact ⟨h1, ⟨v, u, h2.below (below1 _ _), h3.below (below1 _ _), h4, fun j hj => ⟨by rw [hj]; simp, fun m => by have := h2.mine_lt m; omega, fun m => by have := h3.mine_lt m; omega⟩⟩, h6.alloc h6.size _⟩
/-- Both, new. -/
theorem Bth.start {w1 : World} (h : Xs W0 W0.heap.size none0 0 [] w1) : Bth W0 W0.heap.size w1.heap.size none0 0 [] 0 0 [] (w1.alloc (.cells #[.int .i64 0, .int .i64 0, .slice none 0 0] 28)) := by
  obtain ⟨h1, ⟨v, h2, _⟩, h4⟩ := h
  have hz := h4.size
  have hb := below1 w1 (.cells #[.int .i64 0, .int .i64 0, .slice none 0 0] 28)
  refine ⟨⟨h1, hz⟩, ⟨v, .slice none 0 0, h2.below hb, ⟨heap_alloc_new _ _, World.ownsRow_nil _ _ _ _⟩, fun j hj hm => ?_, fun _ h => h.elim⟩, below_next h4 hb⟩
  have := h2.mine_lt hj
  rcases hm with q | q
  · omega
  · simp [Value.ownBlock] at q
theorem b_drop (hO : Okz l) (hl : l.length ≤ 1000) (t : Int) (h : Bth W0 M R F c l o d q w) : Calls Try.prog 9 #[.pointer (some ⟨M, 0, none⟩), .int .i64 t] w fun e w' => e = .returned (.bool (inZ l t)) ∧ Bth W0 M R F c (rmZ l t) o d q w' ∧ Kept F w w' := by
  obtain ⟨h1, ⟨v, u, h2, h3, h4, h5⟩, h6⟩ := h
  exact (drop_any M _ v c l hl hO.nd t w h2).mono fun e w' k => ⟨k.1, Bth.setM h1 h2 h3 h4 h5 h6 k.2⟩
theorem b_wait (hl : l.length ≤ 1000) (t : Int) (h : Bth W0 M R F c l o d q w) : Calls Try.prog 11 #[.pointer (some ⟨M, 0, none⟩), .int .i64 t] w fun e w' => e = .returned (.int .i64 (waitE c l t)) ∧ Bth W0 M R F c (waitL c l t) o d q w' ∧ Kept F w w' := by
  obtain ⟨h1, ⟨v, u, h2, h3, h4, h5⟩, h6⟩ := h
  exact (wait_any M _ v c l hl t w h2 h6.size).mono fun e w' k => ⟨k.1, Bth.setM h1 h2 h3 h4 h5 h6 k.2⟩
theorem b_add (hc : 0 ≤ c ∧ c ≤ 1048576) (n : Int) (h : Bth W0 M R F c l o d q w) : Calls Try.prog 13 #[.pointer (some ⟨M, 0, none⟩), .int .i64 n] w fun e w' => ∃ a s, e = .returned (.tuple #[.slice a (addW c n l).length s, .int .i64 (addE c n)]) ∧ RowF (fun k => F k ∨ adr (addW c n l) a k) w' a (addW c n l) ∧ Bth W0 M R (fun k => F k ∨ adr (addW c n l) a k) (addC c n) (addL c n l) o d q w' ∧ Kept F w w' := by
  obtain ⟨h1, ⟨v, u, h2, h3, h4, h5⟩, h6⟩ := h
  refine (add_any M _ v c l hc n w h2).mono fun e w' k => ?_
  obtain ⟨r, rfl, k2, kr, v', k1, k3, k4⟩ := k
  have hf := h2.far
  have hm : ∀ k, F k → ¬ k = M := fun k hk e => (h5 k hk).2.1 (Or.inl e)
  have hr : ∀ k, Mine R u k → ¬ k = M := fun k hk e => h4 k (Or.inl e) hk
  obtain ⟨a, s, rfl⟩ := owns_slice k2
  refine ⟨a, s, rfl, owned_row k2, ⟨h1, ⟨v', u, k1, h3.keep fun j hj => k3.block j (h3.mine_lt hj) (hr j hj), fun j hj => ?_, fun j hj => ⟨own_F k2 (fun k hk => Nat.lt_of_lt_of_le (h5 k hk).1 k3.size) j hj, fun m => ?_, ?_⟩⟩, h6.trans (k3.below h6.size fun k e => by rw [e]; exact h1.1)⟩, fun j hj => k3.block j (h5 j hj).1 (hm j hj), k3.size⟩
  · rcases hj with m | m
    · exact h4 j (Or.inl m)
    · exact h4 j (Or.inr (k4 j m).1)
  · rcases hj with hj | hj
    · rcases m with m | m
      · exact hm j hj m
      · exact (h5 j hj).2.1 (Or.inr (k4 j m).1)
    · have ho := owned_adr (c := s) hj
      rcases m with m | m
      · exact hf (by rw [kr j ho, m])
      · exact (k4 j m).2 ho
  · rcases hj with hj | hj
    · exact (h5 j hj).2.2
    · exact h4 j (Or.inr (kr j (owned_adr (c := s) hj)))
theorem b_count (h : Bth W0 M R F c l o d q w) : Calls Try.prog 16 #[.pointer (some ⟨M, 0, none⟩)] w fun e w' => e = .returned (.int .i64 c) ∧ w' = w := by
  obtain ⟨h1, ⟨v, u, h2, h3, h4, h5⟩, h6⟩ := h
  exact count_any M _ v c l w h2
theorem b_waits (hl : l.length ≤ 1000) (h : Bth W0 M R F c l o d q w) : Calls Try.prog 17 #[.pointer (some ⟨M, 0, none⟩)] w fun e w' => ∃ a s, e = .returned (.slice a l.length s) ∧ RowZ w' a l ∧ Below w.heap.size w w' := by
  obtain ⟨h1, ⟨v, u, h2, h3, h4, h5⟩, h6⟩ := h
  refine (waits_any M _ v c l hl w h2).mono fun e w' k => ?_
  obtain ⟨r, rfl, k2, k3⟩ := k
  obtain ⟨a, s, rfl⟩ := owns_slice k2
  exact ⟨a, s, rfl, owns_rowZ k2, k3⟩
theorem r_drop (hO : Okz q) (hl : q.length ≤ 1000) (t : Int) (h : Bth W0 M R F c l o d q w) : Calls Try.prog 10 #[.pointer (some ⟨R, 0, none⟩), .int .i64 t] w fun e w' => e = .returned (.bool (inZ q t)) ∧ Bth W0 M R F c l o d (rmZ q t) w' ∧ Kept F w w' := by
  obtain ⟨h1, ⟨v, u, h2, h3, h4, h5⟩, h6⟩ := h
  exact (refDrop_any R _ u o d q hO hl t w h3 h6.size).mono fun e w' k => ⟨k.1, Bth.setR h1 h2 h3 h4 h5 h6 k.2⟩
theorem r_wait (hl : q.length ≤ 1000) (t : Int) (h : Bth W0 M R F c l o d q w) : Calls Try.prog 12 #[.pointer (some ⟨R, 0, none⟩), .int .i64 t] w fun e w' => e = .returned (.int .i64 (waitE d q t)) ∧ Bth W0 M R F c l o d (waitL d q t) w' ∧ Kept F w w' := by
  obtain ⟨h1, ⟨v, u, h2, h3, h4, h5⟩, h6⟩ := h
  exact (refWait_any R _ u o d q hl t w h3 h6.size).mono fun e w' k => ⟨k.1, Bth.setR h1 h2 h3 h4 h5 h6 k.2⟩
theorem r_add (hd : 0 ≤ d ∧ d ≤ 1048576) (ho : 0 ≤ o ∧ o ≤ 1152921504606846976) (n : Int) (hn : -9223372036854775808 ≤ n ∧ n ≤ 9223372036854775807) (h : Bth W0 M R F c l o d q w) : Calls Try.prog 14 #[.pointer (some ⟨R, 0, none⟩), .int .i64 n] w fun e w' => (∃ a s, e = .returned (.tuple #[.slice a (addW d n q).length s, .int .i64 (addE d n)]) ∧ RowZ w' a (addW d n q)) ∧ Bth W0 M R F c l (addO d o n) (addC d n) (addL d n q) w' ∧ Kept F w w' := by
  obtain ⟨h1, ⟨v, u, h2, h3, h4, h5⟩, h6⟩ := h
  exact (refAdd_any R _ u o d q hd ho n hn w h3).mono fun e w' k => ⟨k.1, Bth.setR h1 h2 h3 h4 h5 h6 k.2⟩
/-- What came in and what went out lies in the document's box, and its row, too. -/
theorem r_cells (h : Bth W0 M R F c l o d q w) : w.cell? ⟨R, 0, none⟩ = some (.int .i64 (o + d)) ∧ w.cell? ⟨R, 1, none⟩ = some (.int .i64 o) ∧ ∃ a s, w.cell? ⟨R, 2, none⟩ = some (.slice a q.length s) ∧ RowZ w a q := by
  obtain ⟨h1, ⟨v, u, h2, h3, h4, h5⟩, h6⟩ := h
  obtain ⟨c0, c1, c2, _⟩ := h3.cells
  obtain ⟨a, s, rfl⟩ := owns_slice h3.row
  exact ⟨c0, c1, a, s, c2, owns_rowZ h3.row⟩
end

end Go.Proofs.Ytgfkleaekaggoaa
