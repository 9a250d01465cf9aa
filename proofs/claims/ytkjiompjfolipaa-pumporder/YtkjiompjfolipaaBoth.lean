/-
  The program's beside the document's: what a call of one leaves of both.
-/
import Derived.Test.YtkjiompjfolipaaRecv
import Derived.Test.YtkjiompjfolipaaRef
import Derived.Lib.QuietBelow
namespace Go.Proofs.Ytkjiompjfolipaa
open Go.RowKit

theorem u8_mod {x : Int} (hx : 0 ≤ x ∧ x ≤ 255) (d : Nat) (hd : 0 < d) (hd2 : d ≤ 200) : ∃ m : Nat, x.tmod (d : Int) = (m : Int) ∧ m < d ∧ IntKind.u8.wrap (m : Int) = (m : Int) ∧ wrap64 (m : Int) = (m : Int) := by
  have h1 := Int.emod_nonneg x (show (d : Int) ≠ 0 by omega)
  have h2 := Int.emod_lt_of_pos x (show (0 : Int) < d by omega)
  obtain ⟨m, hm⟩ : ∃ m : Nat, (m : Int) = x % (d : Int) := ⟨(x % (d : Int)).toNat, by omega⟩
  refine ⟨m, by rw [Int.tmod_eq_emod_of_nonneg (by omega)]; exact hm.symm, by omega, ?_, ?_⟩
  · simp [IntKind.wrap, IntKind.bits, IntKind.signed]; omega
  · unfold wrap64; omega
def Kept (F : Nat → Prop) (w w' : World) : Prop := (∀ k, F k → w'.heap[k]? = w.heap[k]?) ∧ w.heap.size ≤ w'.heap.size
theorem Kept.refl (F : Nat → Prop) (w : World) : Kept F w w := ⟨fun _ _ => rfl, Nat.le_refl _⟩
theorem Kept.trans {F : Nat → Prop} {a b c : World} (h : Kept F a b) (k : Kept F b c) : Kept F a c := ⟨fun i hi => (k.1 i hi).trans (h.1 i hi), Nat.le_trans h.2 k.2⟩
theorem Kept.mono {F G : Nat → Prop} {a b : World} (h : Kept F a b) (k : ∀ i, G i → F i) : Kept G a b := ⟨fun i hi => h.1 i (k i hi), h.2⟩
def none0 (_ : Nat) : Prop := False

/-- The program's, behind a world in which there was none of it; F: blocks that are not its own. -/
def Xs (W0 : World) (M : Nat) (F : Nat → Prop) (s : Ps) (w : World) : Prop :=
  W0.heap.size ≤ M ∧ (AtM w M s ∧ ∀ k, F k → k < w.heap.size ∧ ¬ k = M) ∧ Below W0.heap.size W0 w
/-- Both, behind a world in which there was none of them; F: blocks that are neither's. -/
def Bth (W0 : World) (M R : Nat) (F : Nat → Prop) (s q : Ps) (w : World) : Prop :=
  (W0.heap.size ≤ M ∧ W0.heap.size ≤ R) ∧ (∃ u, AtM w M s ∧ AtR w R W0.heap.size u q ∧ ∀ k, F k → k < w.heap.size ∧ ¬ k = M ∧ ¬ Mine R u k) ∧ Below W0.heap.size W0 w

section
variable {W0 w w' : World} {M R : Nat} {F G : Nat → Prop} {s s2 q q2 : Ps} {u : Value}
theorem Xs.below (h : Xs W0 M F s w) (k : Below w.heap.size w w') : Xs W0 M F s w' := by
  obtain ⟨h1, ⟨h2, h3⟩, h4⟩ := h
  exact ⟨h1, ⟨h2.below k, fun j hj => ⟨Nat.lt_of_lt_of_le (h3 j hj).1 k.size, (h3 j hj).2⟩⟩, below_next h4 k⟩
theorem Xs.mono (h : Xs W0 M F s w) (k : ∀ i, G i → F i) : Xs W0 M G s w := by
  obtain ⟨h1, ⟨h2, h3⟩, h4⟩ := h
  exact ⟨h1, ⟨h2, fun j hj => h3 j (k j hj)⟩, h4⟩
theorem Xs.now (h : Xs W0 M F s w) (k : NowM M s2 w w') : Xs W0 M F s2 w' ∧ Kept F w w' := by
  obtain ⟨h1, ⟨h2, h3⟩, h4⟩ := h
  have hlow := k.low h1 h4.size
  have hz := k.2.size
  exact ⟨⟨h1, ⟨k.1, fun j hj => ⟨Nat.lt_of_lt_of_le (h3 j hj).1 hz, (h3 j hj).2⟩⟩, h4.trans hlow⟩, fun j hj => k.2.block j (h3 j hj).1 (h3 j hj).2, hz⟩
theorem Bth.below (h : Bth W0 M R F s q w) (k : Below w.heap.size w w') : Bth W0 M R F s q w' := by
  obtain ⟨h1, ⟨u, h2, h3, h5⟩, h6⟩ := h
  exact ⟨h1, ⟨u, h2.below k, h3.below k, fun j hj => ⟨Nat.lt_of_lt_of_le (h5 j hj).1 k.size, (h5 j hj).2⟩⟩, below_next h6 k⟩
theorem Bth.drew (h : Bth W0 M R F s q w) : Bth W0 M R F s q w.drew := h.below (Below.refl _ _).drew
theorem Bth.mono (h : Bth W0 M R F s q w) (k : ∀ i, G i → F i) : Bth W0 M R G s q w := by
  obtain ⟨h1, ⟨u, h2, h3, h5⟩, h6⟩ := h
  exact ⟨h1, ⟨u, h2, h3, fun j hj => h5 j (k j hj)⟩, h6⟩
theorem Bth.frame (h : Bth W0 M R F s q w) (k : Below w.heap.size w w') : Kept F w w' := by
  obtain ⟨_, ⟨u, _, _, h5⟩, _⟩ := h
  exact ⟨fun j hj => k.block j (h5 j hj).1, k.size⟩
/-- The program's alone. -/
theorem Bth.xs (h : Bth W0 M R F s q w) : Xs W0 M F s w := by
  obtain ⟨h1, ⟨u, h2, _, h5⟩, h6⟩ := h
  exact ⟨h1.1, ⟨h2, fun j hj => ⟨(h5 j hj).1, (h5 j hj).2.1⟩⟩, h6⟩
theorem Bth.setM (h : Bth W0 M R F s q w) (k : NowM M s2 w w') : Bth W0 M R F s2 q w' ∧ Kept F w w' := by
  obtain ⟨h1, ⟨u, h2, h3, h5⟩, h6⟩ := h
  have hlow := k.low h1.1 h6.size
  have hz := k.2.size
  have hf := h3.other h2
  exact ⟨⟨h1, ⟨u, k.1, h3.keep fun j hj => k.2.block j (h3.mine_lt hj) (fun e => hf (by rw [← e]; exact hj)), fun j hj => ⟨Nat.lt_of_lt_of_le (h5 j hj).1 hz, (h5 j hj).2⟩⟩, h6.trans hlow⟩, fun j hj => k.2.block j (h5 j hj).1 (h5 j hj).2.1, hz⟩
theorem Bth.setR (h1 : W0.heap.size ≤ M ∧ W0.heap.size ≤ R) (h2 : AtM w M s) (h3 : AtR w R W0.heap.size u q) (h5 : ∀ k, F k → k < w.heap.size ∧ ¬ k = M ∧ ¬ Mine R u k) (h6 : Below W0.heap.size W0 w) (k : NowR R W0.heap.size u q2 w w') : Bth W0 M R F s q2 w' ∧ Kept F w w' := by
  have hlow := k.low h3 h1.2 (Nat.le_refl _) h6.size
  have hf := h3.other h2
  have hM := h2.lt
  obtain ⟨u', k1, k2, k3⟩ := k
  have hz := k2.size
  refine ⟨⟨h1, ⟨u', h2.keep (k2.block M hM hf), k1, fun j hj => ⟨Nat.lt_of_lt_of_le (h5 j hj).1 hz, (h5 j hj).2.1, fun m => ?_⟩⟩, h6.trans hlow⟩, fun j hj => k2.block j (h5 j hj).1 (h5 j hj).2.2, hz⟩
  rcases m with e | e
  · exact (h5 j hj).2.2 (Or.inl e)
  · rcases k3 j e with e2 | e2
    · have := (h5 j hj).1; omega
    · exact (h5 j hj).2.2 (Or.inr e2)
/-- A box that is new is neither's. -/
theorem Bth.boxed (h : Bth W0 M R none0 s q w) (ob : Obj) : Bth W0 M R (fun k => k = w.heap.size) s q (w.alloc ob) := by
  obtain ⟨h1, ⟨u, h2, h3, _⟩, h6⟩ := h
  exact ⟨h1, ⟨u, h2.below (below1 _ _), h3.below (below1 _ _), fun j hj => ⟨by rw [hj]; simp, fun m => by have := h2.lt; omega, fun m => by have := h3.mine_lt m; omega⟩⟩, h6.alloc h6.size _⟩
theorem Xs.boxed (h : Xs W0 M none0 s w) (ob : Obj) : Xs W0 M (fun k => k = w.heap.size) s (w.alloc ob) := by
  obtain ⟨h1, ⟨h2, _⟩, h4⟩ := h
  exact ⟨h1, ⟨h2.below (below1 _ _), fun j hj => ⟨by rw [hj]; simp, fun m => by have := h2.lt; omega⟩⟩, h4.alloc h4.size _⟩

theorem x_new (n : Int) : Calls Try.prog 8 #[.int .i64 n] w fun e w' => e = .returned (.pointer (some ⟨w.heap.size, 0, none⟩)) ∧ Xs w w.heap.size none0 (ps0 (cut8 n)) w' :=
  (new_any n w).mono fun _ _ k => ⟨k.1, Nat.le_refl _, ⟨k.2.1, fun _ h => h.elim⟩, k.2.2⟩
/-- Both, new. -/
theorem r_new (n : Int) (h : Xs W0 M none0 s w) : Calls Try.prog 9 #[.int .i64 n] w fun e w' => e = .returned (.pointer (some ⟨w.heap.size, 0, none⟩)) ∧ Bth W0 M w.heap.size none0 s (ps0 (cut8 n)) w' := by
  obtain ⟨h1, ⟨h2, _⟩, h4⟩ := h
  refine (refNew_any n w).mono fun e w' k => ?_
  obtain ⟨k1, ⟨u, k2⟩, k3⟩ := k
  have hz := h4.size
  exact ⟨k1, ⟨h1, hz⟩, ⟨u, h2.below k3, ⟨k2.box, owns_base k2.row hz⟩, fun _ h => h.elim⟩, below_next h4 k3⟩

theorem x_send (hO : Okp s) (hl : s.l.length ≤ 1000) (v : Int) (h : Xs W0 M F s w) : Calls Try.prog 11 #[.pointer (some ⟨M, 0, none⟩), .int .i64 v] w fun e w' => e = .returned (.int .i64 0) ∧ Xs W0 M F (s.snd v) w' ∧ Kept F w w' :=
  (send_any M s hO hl v w h.2.1.1).mono fun _ _ k => ⟨k.1, h.now k.2⟩
theorem x_recv (hO : Okp s) (hl : s.l.length ≤ 1000) (x : Int) (h : Xs W0 M F s w) : Calls Try.prog 12 #[.pointer (some ⟨M, 0, none⟩), .int .i64 x] w fun e w' => e = .returned (.tuple #[.int .i64 (rcvV s x), .int .i64 (rcvL s x), .int .i64 (rcvA s x), .int .i64 (rcvE s x)]) ∧ Xs W0 M F s w' ∧ Below w.heap.size w w' :=
  (recv_any M s hO hl x w h.2.1.1).mono fun _ _ k => ⟨k.1, h.below k.2, k.2⟩
theorem x_total (h : Xs W0 M F s w) : Calls Try.prog 14 #[.pointer (some ⟨M, 0, none⟩)] w fun e w' => e = .returned (.int .i64 (s.l.length : Int)) ∧ w' = w := total_any M s w h.2.1.1
theorem b_send (hO : Okp s) (hl : s.l.length ≤ 1000) (v : Int) (h : Bth W0 M R F s q w) : Calls Try.prog 11 #[.pointer (some ⟨M, 0, none⟩), .int .i64 v] w fun e w' => e = .returned (.int .i64 0) ∧ Bth W0 M R F (s.snd v) q w' ∧ Kept F w w' :=
  (send_any M s hO hl v w h.xs.2.1.1).mono fun _ _ k => ⟨k.1, h.setM k.2⟩
theorem b_recv (hO : Okp s) (hl : s.l.length ≤ 1000) (x : Int) (h : Bth W0 M R F s q w) : Calls Try.prog 12 #[.pointer (some ⟨M, 0, none⟩), .int .i64 x] w fun e w' => e = .returned (.tuple #[.int .i64 (rcvV s x), .int .i64 (rcvL s x), .int .i64 (rcvA s x), .int .i64 (rcvE s x)]) ∧ Bth W0 M R F s q w' ∧ Kept F w w' :=
  (recv_any M s hO hl x w h.xs.2.1.1).mono fun _ _ k => ⟨k.1, h.below k.2, h.frame k.2⟩
theorem r_send (hl : q.l.length ≤ 1000) (v : Int) (h : Bth W0 M R F s q w) : Calls Try.prog 10 #[.pointer (some ⟨R, 0, none⟩), .int .i64 v] w fun e w' => e = .returned (.tuple #[]) ∧ Bth W0 M R F s (q.snd v) w' ∧ Kept F w w' := by
  obtain ⟨h1, ⟨u, h2, h3, h5⟩, h6⟩ := h
  exact (refSend_any R _ u q hl v w h3 h6.size).mono fun _ _ k => ⟨k.1, Bth.setR h1 h2 h3 h5 h6 k.2⟩
theorem r_recv (hO : Okp q) (hl : q.l.length ≤ 1000) (x : Int) (h : Bth W0 M R F s q w) : Calls Try.prog 13 #[.pointer (some ⟨R, 0, none⟩), .int .i64 x] w fun e w' => e = .returned (.tuple #[.int .i64 (rcvV q x), .int .i64 (rcvL q x), .int .i64 (rcvA q x), .int .i64 (rcvE q x)]) ∧ Bth W0 M R F s q w' ∧ Kept F w w' := by
  obtain ⟨u, _, h3, _⟩ := h.2.1
  exact (refRecv_any R _ u q hO hl x w h3).mono fun _ _ k => ⟨k.1, h.below k.2, h.frame k.2⟩
/-- The document's row, in its box. -/
theorem r_cells (h : Bth W0 M R F s q w) : R < w.heap.size ∧ ∃ a c, w.cell? ⟨R, 0, none⟩ = some (.slice a q.l.length c) := by
  obtain ⟨u, _, h3, _⟩ := h.2.1
  obtain ⟨c0, _, _⟩ := h3.cells
  obtain ⟨a, c, rfl⟩ := owns_slice h3.row
  exact ⟨h3.lt, a, c, c0⟩
end

end Go.Proofs.Ytkjiompjfolipaa
