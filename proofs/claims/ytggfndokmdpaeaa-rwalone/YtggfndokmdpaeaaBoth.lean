/-
  The program's beside the document's: what a call of one leaves of both; and the law's own comparison of both.
-/
import Derived.Test.YtggfndokmdpaeaaRGive
import Derived.Test.YtggfndokmdpaeaaUp
namespace Go.Proofs.Ytggfndokmdpaeaa
open Go.RowKit

/-- Both, behind a world in which there was none of them; F: blocks that are neither's. -/
def Bth (W0 : World) (M R : Nat) (F : Nat → Prop) (s : St) (l : List Wn) (w : World) : Prop :=
  (W0.heap.size ≤ M ∧ W0.heap.size ≤ R) ∧ (∃ v u, AtX w M W0.heap.size v s ∧ AtR w R W0.heap.size u l ∧ (∀ j, Mine M v j → ¬ MineR R u j) ∧ ∀ k, F k → k < w.heap.size ∧ ¬ Mine M v k ∧ ¬ MineR R u k) ∧ Below W0.heap.size W0 w
def none0 (_ : Nat) : Prop := False

section
variable {W0 w w' : World} {M R : Nat} {F G : Nat → Prop} {s s2 : St} {l l2 : List Wn} {q : List Int} {v : Vs} {u r : Value}
theorem Bth.below (h : Bth W0 M R F s l w) (k : Below w.heap.size w w') : Bth W0 M R F s l w' := by
  obtain ⟨h1, ⟨v, u, h2, h3, h4, h5⟩, h6⟩ := h
  exact ⟨h1, ⟨v, u, h2.below k, h3.below k, h4, fun j hj => ⟨Nat.lt_of_lt_of_le (h5 j hj).1 k.size, (h5 j hj).2⟩⟩, below_next h6 k⟩
theorem Bth.mono (h : Bth W0 M R F s l w) (k : ∀ i, G i → F i) : Bth W0 M R G s l w := by
  obtain ⟨h1, ⟨v, u, h2, h3, h4, h5⟩, h6⟩ := h
  exact ⟨h1, ⟨v, u, h2, h3, h4, fun j hj => h5 j (k j hj)⟩, h6⟩
theorem Bth.frame (h : Bth W0 M R F s l w) (k : Below w.heap.size w w') : Kept F w w' := by
  obtain ⟨_, ⟨v, u, _, _, _, h5⟩, _⟩ := h
  exact ⟨fun j hj => k.block j (h5 j hj).1, k.size⟩
theorem Bth.setX (h1 : W0.heap.size ≤ M ∧ W0.heap.size ≤ R) (h2 : AtX w M W0.heap.size v s) (h3 : AtR w R W0.heap.size u l) (h4 : ∀ j, Mine M v j → ¬ MineR R u j) (h5 : ∀ k, F k → k < w.heap.size ∧ ¬ Mine M v k ∧ ¬ MineR R u k) (h6 : Below W0.heap.size W0 w) (k : NowX M W0.heap.size v s2 w w') : Bth W0 M R F s2 l w' ∧ Kept F w w' := by
  have hlow := k.low h2 h1.1 (Nat.le_refl _) h6.size
  obtain ⟨v', k1, k2, k3⟩ := k
  have hz := k2.size
  refine ⟨⟨h1, ⟨v', u, k1, h3.keep fun j hj => k2.block j (h3.mine_lt hj) (fun q => h4 j q hj), fun j hj hr => ?_, fun j hj => ⟨Nat.lt_of_lt_of_le (h5 j hj).1 hz, fun q => ?_, (h5 j hj).2.2⟩⟩, h6.trans hlow⟩, fun j hj => k2.block j (h5 j hj).1 (h5 j hj).2.1, hz⟩
  · rcases k3 j hj with q2 | q2
    · have := h3.mine_lt hr; omega
    · exact h4 j q2 hr
  · rcases k3 j q with q2 | q2
    · have := (h5 j hj).1; omega
    · exact (h5 j hj).2.1 q2
theorem Bth.setXA (h1 : W0.heap.size ≤ M ∧ W0.heap.size ≤ R) (h2 : AtX w M W0.heap.size v s) (h3 : AtR w R W0.heap.size u l) (h4 : ∀ j, Mine M v j → ¬ MineR R u j) (h5 : ∀ k, F k → k < w.heap.size ∧ ¬ Mine M v k ∧ ¬ MineR R u k) (h6 : Below W0.heap.size W0 w) (k : NowA M W0.heap.size v s2 q w r w') :
    ∃ a c, r = .slice a q.length c ∧ RowF (fun k => F k ∨ adr q a k) w' a q ∧ Bth W0 M R (fun k => F k ∨ adr q a k) s2 l w' ∧ Kept F w w' := by
  obtain ⟨v', a, c, k0, k1, k2, k3, k4⟩ := k
  have hlow := NowX.low ⟨v', k1, k2, k3⟩ h2 h1.1 (Nat.le_refl _) h6.size
  have hz := k2.size
  refine ⟨a, c, k0, fun hn => ?_, ⟨h1, ⟨v', u, k1, h3.keep fun j hj => k2.block j (h3.mine_lt hj) (fun q => h4 j q hj), fun j hj hr => ?_, fun j hj => ?_⟩, h6.trans hlow⟩, fun j hj => k2.block j (h5 j hj).1 (h5 j hj).2.1, hz⟩
  · obtain ⟨g, off, q1, q2, q3, q4, q5⟩ := k4 hn
    exact ⟨g, off, q1, Or.inr ⟨hn, off, q1⟩, q3, q5⟩
  · rcases k3 j hj with q2 | q2
    · have := h3.mine_lt hr; omega
    · exact h4 j q2 hr
  · rcases hj with hj | ⟨hn, off, ha⟩
    · refine ⟨Nat.lt_of_lt_of_le (h5 j hj).1 hz, fun q => ?_, (h5 j hj).2.2⟩
      rcases k3 j q with q2 | q2
      · have := (h5 j hj).1; omega
      · exact (h5 j hj).2.1 q2
    · obtain ⟨g, off2, q1, q2, q3, q4, q5⟩ := k4 hn
      rw [ha] at q1
      cases q1
      exact ⟨q3, q4, fun m => by have := h3.mine_lt m; omega⟩
theorem Bth.setR (h1 : W0.heap.size ≤ M ∧ W0.heap.size ≤ R) (h2 : AtX w M W0.heap.size v s) (h3 : AtR w R W0.heap.size u l) (h4 : ∀ j, Mine M v j → ¬ MineR R u j) (h5 : ∀ k, F k → k < w.heap.size ∧ ¬ Mine M v k ∧ ¬ MineR R u k) (h6 : Below W0.heap.size W0 w) (k : NowR R W0.heap.size u l2 w w') : Bth W0 M R F s l2 w' ∧ Kept F w w' := by
  have hlow := k.low h3 h1.2 (Nat.le_refl _) h6.size
  obtain ⟨u', k1, k2, k3⟩ := k
  have hz := k2.size
  have key : ∀ j, MineR R u' j → w.heap.size ≤ j ∨ MineR R u j := fun j hj => by
    rcases hj with q | q
    · exact Or.inr (Or.inl q)
    · exact (k3 j q).imp id Or.inr
  refine ⟨⟨h1, ⟨v, u', h2.keep fun j hj => k2.block j (h2.mine_lt hj) (fun q => h4 j hj q), k1, fun j hj hr => ?_, fun j hj => ⟨Nat.lt_of_lt_of_le (h5 j hj).1 hz, (h5 j hj).2.1, fun q => ?_⟩⟩, h6.trans hlow⟩, fun j hj => k2.block j (h5 j hj).1 (h5 j hj).2.2, hz⟩
  · rcases key j hr with q2 | q2
    · have := h2.mine_lt hj; omega
    · exact h4 j hj q2
  · rcases key j q with q2 | q2
    · have := (h5 j hj).1; omega
    · exact (h5 j hj).2.2 q2
/-- A box that is new is neither's. -/
theorem Bth.boxed (h : Bth W0 M R none0 s l w) (o : Obj) : Bth W0 M R (fun k => k = w.heap.size) s l (w.alloc o) := by
  obtain ⟨h1, ⟨v, u, h2, h3, h4, _⟩, h6⟩ := h
  exact ⟨h1, ⟨v, u, h2.below (below1 _ _), h3.below (below1 _ _), h4, fun j hj => ⟨by rw [hj]; simp, fun m => by have := h2.mine_lt m; omega, fun m => by have := h3.mine_lt m; omega⟩⟩, h6.alloc h6.size _⟩
theorem Bth.drew (h : Bth W0 M R F s l w) : Bth W0 M R F s l w.drew := h.below (Below.refl _ _).drew
/-- Both, new. -/
theorem Bth.start {w1 : World} (h : Xs W0 W0.heap.size (fun _ => False) St.nil w1) : Bth W0 W0.heap.size w1.heap.size none0 St.nil [] (w1.alloc (.cells #[.slice none 0 0] 28)) := by
  obtain ⟨h1, ⟨v, h2, _⟩, h4⟩ := h
  have hz := h4.size
  refine ⟨⟨h1, hz⟩, ⟨v, .slice none 0 0, h2.below (below1 _ _), ⟨heap_alloc_new _ _, World.ownsRow_nil _ _ _ _⟩, fun j hj hr => ?_, fun _ h => h.elim⟩, h4.alloc hz _⟩
  rcases hr with q | q
  · have := h2.mine_lt hj; omega
  · cases q

theorem b_tryR (hl : s.len ≤ 1000) (t : Int) (h : Bth W0 M R F s l w) : Calls Try.prog 17 #[.pointer (some ⟨M, 0, none⟩), .int .i64 t] w fun e w' => e = .returned (.int .i64 (readE 12 s t)) ∧ Bth W0 M R F (tryRS s t) l w' ∧ Kept F w w' := by
  obtain ⟨h1, ⟨v, u, h2, h3, h4, h5⟩, h6⟩ := h
  exact (tryR_any M _ v s hl t w h2 h6.size).mono fun e w' k => ⟨k.1, Bth.setX h1 h2 h3 h4 h5 h6 k.2⟩
theorem b_rlock (hl : s.len ≤ 1000) (t : Int) (h : Bth W0 M R F s l w) : Calls Try.prog 16 #[.pointer (some ⟨M, 0, none⟩), .int .i64 t] w fun e w' => e = .returned (.int .i64 (readE 14 s t)) ∧ Bth W0 M R F (rlockS s t) l w' ∧ Kept F w w' := by
  obtain ⟨h1, ⟨v, u, h2, h3, h4, h5⟩, h6⟩ := h
  exact (rlock_any M _ v s hl t w h2 h6.size).mono fun e w' k => ⟨k.1, Bth.setX h1 h2 h3 h4 h5 h6 k.2⟩
theorem b_try (hl : s.len ≤ 1000) (t : Int) (h : Bth W0 M R F s l w) : Calls Try.prog 22 #[.pointer (some ⟨M, 0, none⟩), .int .i64 t] w fun e w' => e = .returned (.int .i64 (writeE 12 s t)) ∧ Bth W0 M R F (tryS s t) l w' ∧ Kept F w w' := by
  obtain ⟨h1, ⟨v, u, h2, h3, h4, h5⟩, h6⟩ := h
  exact (try_any M _ v s hl t w h2 h6.size).mono fun e w' k => ⟨k.1, Bth.setX h1 h2 h3 h4 h5 h6 k.2⟩
theorem b_lock (hl : s.len ≤ 1000) (t : Int) (h : Bth W0 M R F s l w) : Calls Try.prog 15 #[.pointer (some ⟨M, 0, none⟩), .int .i64 t] w fun e w' => e = .returned (.int .i64 (writeE 14 s t)) ∧ Bth W0 M R F (lockS s t) l w' ∧ Kept F w w' := by
  obtain ⟨h1, ⟨v, u, h2, h3, h4, h5⟩, h6⟩ := h
  exact (lock_any M _ v s hl t w h2 h6.size).mono fun e w' k => ⟨k.1, Bth.setX h1 h2 h3 h4 h5 h6 k.2⟩
theorem b_runlock (hl : s.len ≤ 1000) (hnd : Nds s) (t : Int) (h : Bth W0 M R F s l w) : Calls Try.prog 18 #[.pointer (some ⟨M, 0, none⟩), .int .i64 t] w fun e w' => ∃ a c, e = .returned (.tuple #[.slice a (runO s t).length c, .int .i64 (runE s t)]) ∧ RowF (fun k => F k ∨ adr (runO s t) a k) w' a (runO s t) ∧ Bth W0 M R (fun k => F k ∨ adr (runO s t) a k) (runS s t) l w' ∧ Kept F w w' := by
  obtain ⟨h1, ⟨v, u, h2, h3, h4, h5⟩, h6⟩ := h
  refine (runlock_any M _ v s hl hnd t w h2 h6.size).mono fun e w' k => ?_
  obtain ⟨r, rfl, k2⟩ := k
  obtain ⟨a, c, rfl, q⟩ := Bth.setXA h1 h2 h3 h4 h5 h6 k2
  exact ⟨a, c, rfl, q⟩
theorem b_unlock (hl : s.len ≤ 1000) (hnd : Nds s) (t : Int) (h : Bth W0 M R F s l w) : Calls Try.prog 19 #[.pointer (some ⟨M, 0, none⟩), .int .i64 t] w fun e w' => ∃ a c, e = .returned (.tuple #[.slice a (unO s t).length c, .int .i64 (unE s t)]) ∧ RowF (fun k => F k ∨ adr (unO s t) a k) w' a (unO s t) ∧ Bth W0 M R (fun k => F k ∨ adr (unO s t) a k) (unS s t) l w' ∧ Kept F w w' := by
  obtain ⟨h1, ⟨v, u, h2, h3, h4, h5⟩, h6⟩ := h
  refine (unlock_any M _ v s hl hnd t w h2 h6.size).mono fun e w' k => ?_
  obtain ⟨r, rfl, k2⟩ := k
  obtain ⟨a, c, rfl, q⟩ := Bth.setXA h1 h2 h3 h4 h5 h6 k2
  exact ⟨a, c, rfl, q⟩
theorem b_drop (hl : s.len ≤ 1000) (hnd : Nds s) (t : Int) (h : Bth W0 M R F s l w) : Calls Try.prog 21 #[.pointer (some ⟨M, 0, none⟩), .int .i64 t] w fun e w' => ∃ a c, e = .returned (.tuple #[.slice a (dropO s t).length c, .bool (dropB s t)]) ∧ RowF (fun k => F k ∨ adr (dropO s t) a k) w' a (dropO s t) ∧ Bth W0 M R (fun k => F k ∨ adr (dropO s t) a k) (dropS s t) l w' ∧ Kept F w w' := by
  obtain ⟨h1, ⟨v, u, h2, h3, h4, h5⟩, h6⟩ := h
  refine (drop_any M _ v s hl hnd t w h2 h6.size).mono fun e w' k => ?_
  obtain ⟨r, rfl, k2⟩ := k
  obtain ⟨a, c, rfl, q⟩ := Bth.setXA h1 h2 h3 h4 h5 h6 k2
  exact ⟨a, c, rfl, q⟩
theorem b_writer (h : Bth W0 M R F s l w) : Calls Try.prog 14 #[.pointer (some ⟨M, 0, none⟩)] w fun e w' => e = .returned (.int .i64 s.w) ∧ w' = w := by
  obtain ⟨h1, ⟨v, u, h2, h3, h4, h5⟩, h6⟩ := h
  exact writer_any M _ v s w h2
theorem b_readers (hl : s.len ≤ 1000) (h : Bth W0 M R F s l w) : Calls Try.prog 13 #[.pointer (some ⟨M, 0, none⟩)] w fun e w' => ∃ a c, e = .returned (.slice a s.rs.length c) ∧ RowZ w' a s.rs ∧ Below w.heap.size w w' := by
  obtain ⟨h1, ⟨v, u, h2, h3, h4, h5⟩, h6⟩ := h
  refine (readers_any M _ v s hl w h2).mono fun e w' k => ?_
  obtain ⟨r, rfl, k2, k3⟩ := k
  obtain ⟨a, c, rfl, hz⟩ := owned_form k2
  exact ⟨a, c, rfl, hz, k3⟩
theorem b_waits (hl : s.len ≤ 1000) (h : Bth W0 M R F s l w) : Calls Try.prog 12 #[.pointer (some ⟨M, 0, none⟩)] w fun e w' => Rows2 s.tw s.tr w e w' := by
  obtain ⟨h1, ⟨v, u, h2, h3, h4, h5⟩, h6⟩ := h
  exact waits_any M _ v s hl w h2
theorem r_want (hl : l.length ≤ 1000) (t : Int) (b wt : Bool) (h : Bth W0 M R F s l w) : Calls Try.prog 24 #[.pointer (some ⟨R, 0, none⟩), .int .i64 t, .bool b, .bool wt] w fun e w' => e = .returned (.int .i64 (wantE l t b wt)) ∧ Bth W0 M R F s (wantL l t b wt) w' ∧ Kept F w w' := by
  obtain ⟨h1, ⟨v, u, h2, h3, h4, h5⟩, h6⟩ := h
  exact (want_any R _ u l hl t b wt w h3 h6.size).mono fun e w' k => ⟨k.1, Bth.setR h1 h2 h3 h4 h5 h6 k.2⟩
theorem r_give (hl : l.length ≤ 1000) (hnd : (ts l).Nodup) (t : Int) (b : Bool) (h : Bth W0 M R F s l w) : Calls Try.prog 25 #[.pointer (some ⟨R, 0, none⟩), .int .i64 t, .bool b] w fun e w' => ∃ a c, e = .returned (.tuple #[.slice a (giveO l t b).length c, .int .i64 (giveE l t b)]) ∧ RowZ w' a (giveO l t b) ∧ Bth W0 M R F s (giveL l t b) w' ∧ Kept F w w' := by
  obtain ⟨h1, ⟨v, u, h2, h3, h4, h5⟩, h6⟩ := h
  refine (rgive_any R _ u l hl hnd t b w h3 h6.size).mono fun e w' k => ?_
  obtain ⟨a, c, rfl, k2, k3⟩ := k
  exact ⟨a, c, rfl, k3, Bth.setR h1 h2 h3 h4 h5 h6 k2⟩
theorem r_drop (hl : l.length ≤ 1000) (hnd : (ts l).Nodup) (t : Int) (h : Bth W0 M R F s l w) : Calls Try.prog 23 #[.pointer (some ⟨R, 0, none⟩), .int .i64 t] w fun e w' => ∃ a c, e = .returned (.tuple #[.slice a (outO l t).length c, .bool (outB l t)]) ∧ RowZ w' a (outO l t) ∧ Bth W0 M R F s (outL l t) w' ∧ Kept F w w' := by
  obtain ⟨h1, ⟨v, u, h2, h3, h4, h5⟩, h6⟩ := h
  refine (rdrop_any R _ u l hl hnd t w h3 h6.size).mono fun e w' k => ?_
  obtain ⟨a, c, rfl, k2, k3⟩ := k
  exact ⟨a, c, rfl, k3, Bth.setR h1 h2 h3 h4 h5 h6 k2⟩
theorem r_writer (hl : l.length ≤ 1000) (h : Bth W0 M R F s l w) : Calls Try.prog 26 #[.pointer (some ⟨R, 0, none⟩)] w fun e w' => e = .returned (.int .i64 (wrO l)) ∧ Below w.heap.size w w' := by
  obtain ⟨h1, ⟨v, u, h2, h3, h4, h5⟩, h6⟩ := h
  exact rwriter_any R _ u l hl w h3
theorem r_tasks (hl : l.length ≤ 1000) (b c : Bool) (q : List Int) (hq : kinds l b c = q) (h : Bth W0 M R F s l w) : Calls Try.prog 27 #[.pointer (some ⟨R, 0, none⟩), .bool b, .bool c] w fun e w' => ∃ a d, e = .returned (.slice a q.length d) ∧ RowZ w' a q ∧ Below w.heap.size w w' := by
  obtain ⟨h1, ⟨v, u, h2, h3, h4, h5⟩, h6⟩ := h
  refine (tasks_any R _ u l hl b c w h3).mono fun e w' k => ?_
  obtain ⟨r, rfl, k2, k3⟩ := k
  rw [hq] at k2
  obtain ⟨a, d, rfl, hz⟩ := owned_form k2
  exact ⟨a, d, rfl, hz, k3⟩
end

theorem hand_len {l : List Wn} (hn : (ts l).Nodup) : (handLL l).length = l.length := (mv_fold (handLo l) hn (hand_in l)).2.2
theorem want_len (l : List Wn) (t : Int) (b wt : Bool) : (wantL l t b wt).length ≤ l.length + 1 := by
  unfold wantL
  split
  · omega
  split
  · omega
  split <;> simp
theorem give_len {l : List Wn} (hn : (ts l).Nodup) (t : Int) (b : Bool) : (giveL l t b).length ≤ l.length + 1 := by
  unfold giveL
  split
  · omega
  split
  · rename_i h1 h2
    have hi : inZ (ts l) t = true := by
      unfold giveB at h2
      cases q : inZ (ts l) t
      · rw [q] at h2; simp at h2
      · rfl
    have := less_len (idx_here hi).1
    rw [hand_len (less_nd hn hi)]
    omega
  · omega
theorem out_len {l : List Wn} (hn : (ts l).Nodup) (t : Int) : (outL l t).length ≤ l.length + 1 := by
  unfold outL
  split
  · rename_i h2
    have hi : inZ (ts l) t = true := by
      unfold outB at h2
      cases q : inZ (ts l) t
      · rw [q] at h2; simp at h2
      · rfl
    have := less_len (idx_here hi).1
    rw [hand_len (less_nd hn hi)]
    omega
  · omega
theorem Rep.nds {s : St} {l : List Wn} (h : Rep s l) : Nds s := ⟨h.k.rows.1, h.k.rows.2.1, h.k.rows.2.2⟩
theorem Rep.lens {s : St} {l : List Wn} (h : Rep s l) (hl : l.length ≤ 1000) : s.len ≤ 1000 := Nat.le_trans h.k.len hl
theorem same_of {w : World} {q q2 : List Int} (e : q = q2) (hq : q2.length ≤ 1000) (a1 a2 : Option Addr) (c1 c2 : Nat) (h1 : RowZ w a1 q) (h2 : RowZ w a2 q2) :
    Calls Try.prog 20 #[.slice a1 q.length c1, .slice a2 q2.length c2] w fun e w' => e = .returned (.bool true) ∧ Below w.heap.size w w' := by
  subst e
  exact same_ints a1 a2 c1 c2 q w hq h1 h2

set_option maxRecDepth 20000 in
set_option maxHeartbeats 4000000 in
theorem alike_any (W0 : World) (M R : Nat) (s : St) (l : List Wn) (hr : Rep s l) (hl : l.length ≤ 1000) (w : World) (h : Bth W0 M R none0 s l w) :
    Calls Try.prog 10 #[.pointer (some ⟨M, 0, none⟩), .pointer (some ⟨R, 0, none⟩)] w fun e w' => e = .returned (.bool true) ∧ Bth W0 M R none0 s l w' := by
  have hs := hr.lens hl
  have hls := St.lens hs
  have HW := hide (b_waits hs h)
  have C1 := hide (fun W (k : Bth W0 M R none0 s l W) => b_writer k)
  have C2 : Hid (∀ W, Bth W0 M R none0 s l W → Calls Try.prog 26 #[.pointer (some ⟨R, 0, none⟩)] W fun e w' => e = .returned (.int .i64 s.w) ∧ Below W.heap.size W w') := hide fun W k => by
    have := r_writer hl k
    rw [hr.k.wr] at this
    exact this
  have C3 := hide (fun W (k : Bth W0 M R none0 s l W) => b_readers hs k)
  have C4 := hide (fun W (k : Bth W0 M R none0 s l W) => r_tasks hl false true s.rs hr.k.ft k)
  have C5 := hide (fun W (k : Bth W0 M R none0 s l W) => r_tasks hl true false s.tw hr.k.tf k)
  have C6 := hide (fun W (k : Bth W0 M R none0 s l W) => r_tasks hl false false s.tr hr.k.ff k)
  have HB := hide h
  have hww : (s.w == s.w) = true := by simp
  clear h hr
  generalize s.w = X at *
  generalize s.rs = q1 at *
  generalize s.tw = q2 at *
  generalize s.tr = q3 at *
  go_enter Try.func10, Try.ntmps10
  go_wp2_with fail
  refine HW.out.mono ?_
  rintro e w2 ⟨a1, c1, a2, c2, rfl, hz1, hz2, hb2⟩
  have HB2 := hide (HB.out.below hb2)
  have HZ1 := hide hz1
  have HZ2 := hide hz2
  clear hz1 hz2 hb2 HB HW
  go_wp2_with fail
  refine (C1.out _ HB2.out).mono ?_
  rintro e w3 ⟨rfl, hw3⟩
  subst hw3
  go_wp2_with fail
  refine (C2.out _ HB2.out).mono ?_
  rintro e w4 ⟨rfl, hb4⟩
  have HB4 := hide (HB2.out.below hb4)
  have HY1 := hide (HZ1.out.below hb4)
  have HY2 := hide (HZ2.out.below hb4)
  clear hb4 HB2 HZ1 HZ2 C1 C2
  go_wp2_with fail
  refine (C3.out _ HB4.out).mono ?_
  rintro e w5 ⟨a5, c5, rfl, hz5, hb5⟩
  have HB5 := hide (HB4.out.below hb5)
  have HZ5 := hide hz5
  have HZ1 := hide (HY1.out.below hb5)
  have HZ2 := hide (HY2.out.below hb5)
  clear hb5 HB4 HY1 HY2 C3 hz5
  go_wp2_with fail
  refine (C4.out _ HB5.out).mono ?_
  rintro e w6 ⟨a6, c6, rfl, hz6, hb6⟩
  have HB6 := hide (HB5.out.below hb6)
  have HI := hide (same_ints a5 a6 c5 c6 q1 w6 hls.1 (HZ5.out.below hb6) hz6)
  have HY1 := hide (HZ1.out.below hb6)
  have HY2 := hide (HZ2.out.below hb6)
  clear hb6 HB5 HZ1 HZ2 C4 hz6 HZ5
  go_wp2_with fail
  refine HI.out.mono ?_
  rintro e w7 ⟨rfl, hb7⟩
  have HB7 := hide (HB6.out.below hb7)
  have HZ1 := hide (HY1.out.below hb7)
  have HZ2 := hide (HY2.out.below hb7)
  clear hb7 HB6 HY1 HY2 HI
  go_wp2_with fail
  refine (C5.out _ HB7.out).mono ?_
  rintro e w8 ⟨a8, c8, rfl, hz8, hb8⟩
  have HB8 := hide (HB7.out.below hb8)
  have HI := hide (same_ints a1 a8 c1 c8 q2 w8 hls.2.1 (HZ1.out.below hb8) hz8)
  have HY2 := hide (HZ2.out.below hb8)
  clear hb8 HB7 HZ1 HZ2 C5 hz8
  go_wp2_with fail
  refine HI.out.mono ?_
  rintro e w9 ⟨rfl, hb9⟩
  have HB9 := hide (HB8.out.below hb9)
  have HZ2 := hide (HY2.out.below hb9)
  clear hb9 HB8 HY2 HI
  go_wp2_with fail
  refine (C6.out _ HB9.out).mono ?_
  rintro e w10 ⟨a10, c10, rfl, hz10, hb10⟩
  have HB10 := hide (HB9.out.below hb10)
  have HI := hide (same_ints a2 a10 c2 c10 q3 w10 hls.2.2 (HZ2.out.below hb10) hz10)
  clear hb10 HB9 HZ2 C6 hz10
  go_wp2_with fail
  refine HI.out.mono ?_
  rintro e w11 ⟨rfl, hb11⟩
  have HB11 := hide (HB10.out.below hb11)
  clear hb11 HB10 HI
  go_wp2
  go_ret
  exact ⟨rfl, HB11.out⟩

end Go.Proofs.Ytggfndokmdpaeaa
