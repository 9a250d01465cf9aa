/-
  The document's tasks in memory: their box, their arena and their row; and what a call may turn of them.
-/
import Derived.Test.YtngaecfainhjcaaSRuns
import Derived.Test.YtngaecfainhjcaaAPlays
namespace Go.Proofs.Ytngaecfainhjcaa
open Go.RowKit A

structure AtQ (w : World) (Q R base : Nat) (v1 v2 v3 u : Value) (r : Rf) (l : List Nat) : Prop where
  box : w.heap[Q]? = some (.cells #[.pointer (some ⟨R, 0, none⟩), u] 33 (0, 0))
  ar : AtR w R base v1 v2 v3 r
  ro : w.ownsRow base 3 1 u l.length (cI l)
  d : ∀ j, u.ownBlock = some j → ¬ Mine R v1 v2 v3 j

def MineQ (Q R : Nat) (v1 v2 v3 u : Value) (k : Nat) : Prop := k = Q ∨ Mine R v1 v2 v3 k ∨ u.ownBlock = some k
def NowQ (Q R base : Nat) (v1 v2 v3 u : Value) (r : Rf) (l : List Nat) (w w' : World) : Prop :=
  ∃ v3' u', AtQ w' Q R base v1 v2 v3' u' r l ∧ Mov (MineQ Q R v1 v2 v3 u) w w' ∧ ∀ k, MineQ Q R v1 v2 v3' u' k → w.heap.size ≤ k ∨ MineQ Q R v1 v2 v3 u k

variable {w w' : World} {Q R base : Nat} {v1 v2 v3 u : Value} {r : Rf} {l : List Nat}
theorem AtQ.ltQ (h : AtQ w Q R base v1 v2 v3 u r l) : Q < w.heap.size := (Array.getElem?_eq_some_iff.1 h.box).1
theorem AtQ.far (h : AtQ w Q R base v1 v2 v3 u r l) : ¬ Mine R v1 v2 v3 Q ∧ u.ownBlock ≠ some Q := by
  refine ⟨?_, row_box h.ro h.box (by decide)⟩
  rintro (e | e | e | e)
  · subst e
    have := h.ar.box.symm.trans h.box
    simp at this
  · exact row_box h.ar.g h.box (by decide) e
  · exact row_box h.ar.n h.box (by decide) e
  · exact row_box h.ar.b h.box (by decide) e
theorem AtQ.mine_lt (h : AtQ w Q R base v1 v2 v3 u r l) {k : Nat} (hk : MineQ Q R v1 v2 v3 u k) : k < w.heap.size := by
  rcases hk with e | e | e
  · rw [e]; exact h.ltQ
  · exact h.ar.mine_lt e
  · exact (h.ro.lt k e).2
theorem AtQ.mine_ge (h : AtQ w Q R base v1 v2 v3 u r l) (hQ : base ≤ Q) (hR : base ≤ R) {k : Nat} (hk : MineQ Q R v1 v2 v3 u k) : base ≤ k := by
  rcases hk with e | e | e
  · rw [e]; exact hQ
  · exact h.ar.mine_ge hR e
  · exact (h.ro.lt k e).1
theorem AtR.keep (h : AtR w R base v1 v2 v3 r) (hk : ∀ k, Mine R v1 v2 v3 k → w'.heap[k]? = w.heap[k]?) : AtR w' R base v1 v2 v3 r :=
  ⟨(hk R (Or.inl rfl)).trans h.box, owns_far h.g fun k e => hk k (Or.inr (Or.inl e)), owns_far h.n fun k e => hk k (Or.inr (Or.inr (Or.inl e))), owns_far h.b fun k e => hk k (Or.inr (Or.inr (Or.inr e))), h.gn, h.gb, h.nb⟩
theorem AtQ.keep (h : AtQ w Q R base v1 v2 v3 u r l) (hk : ∀ k, MineQ Q R v1 v2 v3 u k → w'.heap[k]? = w.heap[k]?) : AtQ w' Q R base v1 v2 v3 u r l :=
  ⟨(hk Q (Or.inl rfl)).trans h.box, AtR.keep h.ar fun k e => hk k (Or.inr (Or.inl e)), owns_far h.ro fun k e => hk k (Or.inr (Or.inr e)), h.d⟩
theorem AtQ.below (h : AtQ w Q R base v1 v2 v3 u r l) (k : Below w.heap.size w w') : AtQ w' Q R base v1 v2 v3 u r l := h.keep fun j hj => k.block j (h.mine_lt hj)
theorem AtQ.cells (h : AtQ w Q R base v1 v2 v3 u r l) : w.cell? ⟨Q, 0, none⟩ = some (.pointer (some ⟨R, 0, none⟩)) ∧ w.cell? ⟨Q, 1, none⟩ = some u ∧ (∀ j, w.frozen? ⟨Q, j, none⟩ = false) :=
  ⟨Lib.cell_of_heap h.box 0, Lib.cell_of_heap h.box 1, fun j => Lib.frozen_of_heap h.box j⟩
theorem NowQ.same (h : AtQ w Q R base v1 v2 v3 u r l) (k : Below w.heap.size w w') : NowQ Q R base v1 v2 v3 u r l w w' :=
  ⟨v3, u, h.below k, Mov.of_below k, fun _ hk => Or.inr hk⟩
/-- The arena turns, all else is as it was. -/
theorem AtQ.turn {r' : Rf} (h : AtQ w Q R base v1 v2 v3 u r l) (k : NowR R base v1 v2 v3 r' w w') : NowQ Q R base v1 v2 v3 u r' l w w' := by
  obtain ⟨v3', k1, k2, k3⟩ := k
  have hm : ∀ j, Mine R v1 v2 v3' j → w.heap.size ≤ j ∨ Mine R v1 v2 v3 j := fun j hj => by
    rcases hj with e | e | e | e
    · exact Or.inr (Or.inl e)
    · exact Or.inr (Or.inr (Or.inl e))
    · exact Or.inr (Or.inr (Or.inr (Or.inl e)))
    · rcases k3 j e with q | q
      · exact Or.inl q
      · exact Or.inr (Or.inr (Or.inr (Or.inr q)))
  refine ⟨v3', u, ⟨(k2.block Q h.ltQ h.far.1).trans h.box, k1, owns_far h.ro fun j e => k2.block j (h.ro.lt j e).2 (h.d j e), fun j e hj => ?_⟩, ⟨k2.os, k2.tape, k2.output, k2.size, fun j hj hS => k2.block j hj (fun e => hS (Or.inr (Or.inl e)))⟩, fun j hj => ?_⟩
  · rcases hm j hj with q | q
    · have := (h.ro.lt j e).2; omega
    · exact h.d j e q
  · rcases hj with e | e | e
    · exact Or.inr (Or.inl e)
    · rcases hm j e with q | q
      · exact Or.inl q
      · exact Or.inr (Or.inr (Or.inl q))
    · exact Or.inr (Or.inr (Or.inr e))
theorem NowQ.next {w1 w2 : World} {v3' u' : Value} {r' : Rf} {l' : List Nat} (h2 : Mov (MineQ Q R v1 v2 v3 u) w w1) (h3 : ∀ k, MineQ Q R v1 v2 v3' u' k → w.heap.size ≤ k ∨ MineQ Q R v1 v2 v3 u k) (k : NowQ Q R base v1 v2 v3' u' r' l' w1 w2) : NowQ Q R base v1 v2 v3 u r' l' w w2 := by
  obtain ⟨a, b, k1, k2, k3⟩ := k
  have hz := h2.size
  refine ⟨a, b, k1, h2.thn k2 h3, fun j hj => ?_⟩
  rcases k3 j hj with q | q
  · exact Or.inl (by omega)
  · exact h3 j q
/-- The row is a new one now. -/
theorem AtQ.setRun {w5 : World} {u' : Value} {l' : List Nat} (h : AtQ w Q R base v1 v2 v3 u r l) (hb : Below w.heap.size w w5) (ho : w5.ownsRow base 3 1 u' l'.length (cI l')) (hnew : ∀ k, u'.ownBlock = some k → w.heap.size ≤ k) : NowQ Q R base v1 v2 v3 u r l' w (w5.setCell ⟨Q, 1, none⟩ u') := by
  have h5 := h.below hb
  refine ⟨v3, u', ⟨Lib.heap_setCell_same h5.box u', AtR.keep h5.ar fun k e => Below.heap_setCell _ _ _ _ (fun e2 => h.far.1 (by rw [← show k = Q from e2]; exact e)), owns_far ho fun k hk => Below.heap_setCell _ _ _ _ (fun e => row_box ho h5.box (by decide) (by rw [hk, e])), fun j e hj => ?_⟩, ((Mov.of_below hb).set (p := ⟨Q, 1, none⟩) (Or.inl rfl) _), fun k hk => ?_⟩
  · have := hnew j e
    have := h.ar.mine_lt hj
    omega
  · rcases hk with e | e | e
    · exact Or.inr (Or.inl e)
    · exact Or.inr (Or.inr (Or.inl e))
    · exact Or.inl (hnew k e)

end Go.Proofs.Ytngaecfainhjcaa
