/-
  The program's beside the document's: what a call of one leaves of both.
-/
import Derived.Test.YtbagkmijnjjmgaaRefDrop
import Derived.Test.YtbagkmijnjjmgaaAwake
namespace Go.Proofs.Ytbagkmijnjjmgaa
open Go.RowKit

structure PS (w : World) (M R base : Nat) (v u : Value) (l1 l2 : List Int) : Prop where
  m : AtM w M base v l1
  r : AtR w R base u l2
  d : ∀ j, Mine M v j → ¬ Mine R u j
/-- Both, behind a world in which there was none of them. -/
def Bth (W0 : World) (M R : Nat) (l1 l2 : List Int) (w : World) : Prop := (W0.heap.size ≤ M ∧ W0.heap.size ≤ R) ∧ (∃ v u, PS w M R W0.heap.size v u l1 l2) ∧ Below W0.heap.size W0 w

variable {W0 w w' : World} {M R : Nat} {l l1 l2 l3 : List Int}
theorem Bth.below (h : Bth W0 M R l1 l2 w) (k : Below w.heap.size w w') : Bth W0 M R l1 l2 w' := by
  obtain ⟨h1, ⟨v, u, h2⟩, h3⟩ := h
  exact ⟨h1, ⟨v, u, h2.m.below k, h2.r.below k, h2.d⟩, below_next h3 k⟩
theorem Bth.setM (h1 : W0.heap.size ≤ M ∧ W0.heap.size ≤ R) {v u : Value} (h2 : PS w M R W0.heap.size v u l1 l2) (h3 : Below W0.heap.size W0 w) (k : NowM M W0.heap.size v l3 w w') : Bth W0 M R l3 l2 w' := by
  have hlow := k.low h2.m h1.1 (Nat.le_refl _) h3.size
  obtain ⟨v', k1, k2, k3⟩ := k
  refine ⟨h1, ⟨v', u, k1, h2.r.keep fun j hj => k2.block j (h2.r.mine_lt hj) (fun q => h2.d j q hj), fun j hj hr => ?_⟩, h3.trans hlow⟩
  rcases hj with q | q
  · exact h2.d j (Or.inl q) hr
  · rcases k3 j q with q2 | q2
    · have := h2.r.mine_lt hr; omega
    · exact h2.d j (Or.inr q2) hr
theorem Bth.setR (h1 : W0.heap.size ≤ M ∧ W0.heap.size ≤ R) {v u : Value} (h2 : PS w M R W0.heap.size v u l1 l2) (h3 : Below W0.heap.size W0 w) (k : NowR R W0.heap.size u l3 w w') : Bth W0 M R l1 l3 w' := by
  have hlow := k.low h2.r h1.2 (Nat.le_refl _) h3.size
  obtain ⟨u', k1, k2, k3⟩ := k
  refine ⟨h1, ⟨v, u', h2.m.keep fun j hj => k2.block j (h2.m.mine_lt hj) (fun q => h2.d j hj q), k1, fun j hj hr => ?_⟩, h3.trans hlow⟩
  rcases hr with q | q
  · exact h2.d j hj (Or.inl q)
  · rcases k3 j q with q2 | q2
    · have := h2.m.mine_lt hj; omega
    · exact h2.d j hj (Or.inr q2)

theorem b_drop (hO : Okz l) (hl : l.length ≤ 1000) (t : Int) (h : Bth W0 M R l l2 w) : Calls Try.prog 9 #[.pointer (some ⟨M, 0, none⟩), .int .i64 t] w fun e w' => e = .returned (.bool (dropB l t)) ∧ Bth W0 M R (dropL l t) l2 w' := by
  obtain ⟨h1, ⟨v, u, h2⟩, h3⟩ := h
  exact (drop_any M _ v l hl hO.tail.nd t w h2.m).mono fun e w' k => ⟨k.1, Bth.setM h1 h2 h3 k.2⟩
theorem b_try (hO : Okz l) (hl : l.length ≤ 1000) (t : Int) (h : Bth W0 M R l l2 w) : Calls Try.prog 11 #[.pointer (some ⟨M, 0, none⟩), .int .i64 t] w fun e w' => e = .returned (.int .i64 (tryE l t)) ∧ Bth W0 M R (tryL l t) l2 w' := by
  obtain ⟨h1, ⟨v, u, h2⟩, h3⟩ := h
  exact (try_any M _ v l hO hl t w h2.m).mono fun e w' k => ⟨k.1, Bth.setM h1 h2 h3 k.2⟩
theorem b_lock (hO : Okz l) (hl : l.length ≤ 1000) (t : Int) (h : Bth W0 M R l l2 w) : Calls Try.prog 15 #[.pointer (some ⟨M, 0, none⟩), .int .i64 t] w fun e w' => e = .returned (.int .i64 (lockE l t)) ∧ Bth W0 M R (lockL l t) l2 w' := by
  obtain ⟨h1, ⟨v, u, h2⟩, h3⟩ := h
  exact (lock_any M _ v l hO hl t w h2.m h3.size).mono fun e w' k => ⟨k.1, Bth.setM h1 h2 h3 k.2⟩
theorem b_un (hO : Okz l) (hl : l.length ≤ 1000) (t : Int) (h : Bth W0 M R l l2 w) : Calls Try.prog 13 #[.pointer (some ⟨M, 0, none⟩), .int .i64 t] w fun e w' => e = .returned (.tuple #[.int .i64 (unN l t), .int .i64 (unE l t)]) ∧ Bth W0 M R (unL l t) l2 w' := by
  obtain ⟨h1, ⟨v, u, h2⟩, h3⟩ := h
  exact (unlock_any M _ v l hO hl t w h2.m).mono fun e w' k => ⟨k.1, Bth.setM h1 h2 h3 k.2⟩
theorem b_holder (h : Bth W0 M R l l2 w) : Calls Try.prog 16 #[.pointer (some ⟨M, 0, none⟩)] w fun e w' => e = .returned (.int .i64 (hold l)) ∧ w' = w := by
  obtain ⟨h1, ⟨v, u, h2⟩, h3⟩ := h
  exact holder_any M _ v l w h2.m
theorem b_waits (hl : l.length ≤ 1000) (h : Bth W0 M R l l2 w) : Calls Try.prog 19 #[.pointer (some ⟨M, 0, none⟩)] w fun e w' => ∃ a c, e = .returned (.slice a l.tail.length c) ∧ RowZ w' a l.tail ∧ Bth W0 M R l l2 w' := by
  have h' := h
  obtain ⟨h1, ⟨v, u, h2⟩, h3⟩ := h
  refine (waits_any M _ v l hl w h2.m).mono fun e w' k => ?_
  obtain ⟨r, rfl, k2, k3⟩ := k
  rcases k2.2 with ⟨rfl, k4⟩ | ⟨g, cap, cur, rfl, _⟩
  · have e0 : l.tail = [] := List.length_eq_zero_iff.1 k4
    exact ⟨none, 0, by rw [k4], fun q => absurd e0 q, h'.below k3⟩
  · exact ⟨_, _, rfl, owns_rowZ k2, h'.below k3⟩
theorem r_drop (hO : Okz l) (hl : l.length ≤ 1000) (t : Int) (h : Bth W0 M R l1 l w) : Calls Try.prog 10 #[.pointer (some ⟨R, 0, none⟩), .int .i64 t] w fun e w' => e = .returned (.bool (dropB l t)) ∧ Bth W0 M R l1 (dropL l t) w' := by
  obtain ⟨h1, ⟨v, u, h2⟩, h3⟩ := h
  exact (refDrop_any R _ u l hO hl t w h2.r h3.size).mono fun e w' k => ⟨k.1, Bth.setR h1 h2 h3 k.2⟩
theorem r_want (hl : l.length ≤ 1000) (t : Int) (b : Bool) (h : Bth W0 M R l1 l w) : Calls Try.prog 12 #[.pointer (some ⟨R, 0, none⟩), .int .i64 t, .bool b] w fun e w' => e = .returned (.int .i64 (if b = true then lockE l t else tryE l t)) ∧ Bth W0 M R l1 (if b = true then lockL l t else tryL l t) w' := by
  obtain ⟨h1, ⟨v, u, h2⟩, h3⟩ := h
  exact (want_any R _ u l hl t b w h2.r h3.size).mono fun e w' k => ⟨k.1, Bth.setR h1 h2 h3 k.2⟩
theorem r_un (hl : l.length ≤ 1000) (t : Int) (h : Bth W0 M R l1 l w) : Calls Try.prog 14 #[.pointer (some ⟨R, 0, none⟩), .int .i64 t] w fun e w' => e = .returned (.tuple #[.int .i64 (unN l t), .int .i64 (unE l t)]) ∧ Bth W0 M R l1 (unL l t) w' := by
  obtain ⟨h1, ⟨v, u, h2⟩, h3⟩ := h
  exact (refUnlock_any R _ u l hl t w h2.r h3.size).mono fun e w' k => ⟨k.1, Bth.setR h1 h2 h3 k.2⟩
theorem r_holder (h : Bth W0 M R l1 l w) : Calls Try.prog 17 #[.pointer (some ⟨R, 0, none⟩)] w fun e w' => e = .returned (.int .i64 (hold l)) ∧ w' = w := by
  obtain ⟨h1, ⟨v, u, h2⟩, h3⟩ := h
  exact refHolder_any R _ u l w h2.r
theorem r_waits (h : Bth W0 M R l1 l w) : Calls Try.prog 20 #[.pointer (some ⟨R, 0, none⟩)] w fun e w' => (∃ a c, e = .returned (.slice a l.tail.length c) ∧ RowZ w a l.tail) ∧ w' = w := by
  obtain ⟨h1, ⟨v, u, h2⟩, h3⟩ := h
  exact refWaits_any R _ u l w h2.r
/-- Who waits, and how many: as letters. -/
structure Tl (L T : List Int) (n : Nat) : Prop where
  t : L.tail = T
  n : T.length = n
  b : L.length ≤ 1000
theorem Tl.mk' {L : List Int} (h : L.length ≤ 1000) : ∃ T n, Tl L T n := ⟨_, _, rfl, rfl, h⟩
theorem b_waitsT {T : List Int} {n : Nat} (hT : Tl l T n) (h : Bth W0 M R l l2 w) : Calls Try.prog 19 #[.pointer (some ⟨M, 0, none⟩)] w fun e w' => ∃ a c, e = .returned (.slice a n c) ∧ RowZ w' a T ∧ Bth W0 M R l l2 w' := by
  have := b_waits hT.b h
  rwa [hT.t, hT.n] at this
theorem r_waitsT {T : List Int} {n : Nat} (hT : Tl l T n) (h : Bth W0 M R l1 l w) : Calls Try.prog 20 #[.pointer (some ⟨R, 0, none⟩)] w fun e w' => (∃ a c, e = .returned (.slice a n c) ∧ RowZ w a T) ∧ w' = w := by
  have := r_waits h
  rwa [hT.t, hT.n] at this
theorem same_intsT {T : List Int} {n : Nat} (hT : Tl l T n) (a1 a2 : Option Addr) (c1 c2 : Nat) (h1 : RowZ w a1 T) (h2 : RowZ w a2 T) :
    Calls Try.prog 18 #[.slice a1 n c1, .slice a2 n c2] w fun e w' => e = .returned (.bool true) ∧ Below w.heap.size w w' := by
  have hb := hT.b
  have hl := List.length_tail (l := l)
  rw [hT.t] at hl
  have := same_ints a1 a2 c1 c2 T w (by omega) h1 h2
  rwa [hT.n] at this
/-- Both, new. -/
theorem Bth.start {w1 : World} (hm : AtM w1 M W0.heap.size (.slice none 0 0) []) (hb : Below W0.heap.size W0 w1) (hM : W0.heap.size ≤ M) : Bth W0 M w1.heap.size [] [] (w1.alloc (.cells #[.slice none 0 0] 28)) := by
  have hz := hb.size
  have hr0 : AtR (w1.alloc (.cells #[.slice none 0 0] 28)) w1.heap.size W0.heap.size (.slice none 0 0) [] := ⟨heap_alloc_new _ _, rfl, .inl ⟨rfl, rfl⟩⟩
  refine ⟨⟨hM, hz⟩, ⟨_, _, hm.below (below1 _ _), hr0, fun j hj hr => ?_⟩, hb.alloc hz _⟩
  rcases hr with q | q
  · have := hm.mine_lt hj; omega
  · cases q

end Go.Proofs.Ytbagkmijnjjmgaa
