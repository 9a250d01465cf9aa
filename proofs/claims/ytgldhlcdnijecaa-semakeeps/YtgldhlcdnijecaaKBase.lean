/-
  The program's beside two rows of the law's own; and what two appends leave of these.
-/
import Derived.Test.YtgldhlcdnijecaaKMath
namespace Go.Proofs.Ytgldhlcdnijecaa
open Go.RowKit

/-- The program's, beside two rows of the law's own; F: other blocks that stay. -/
def KX (w : World) (M : Nat) (F : Nat → Prop) (s : Sm) (who many : List Int) (v7 v8 : Value) (wr : World) : Prop :=
  Xs w M (fun k => (v7.ownBlock = some k ∨ v8.ownBlock = some k) ∨ F k) s wr ∧ wr.ownsRow w.heap.size 3 1 v7 who.length (cZ who) ∧ wr.ownsRow w.heap.size 3 1 v8 who.length (cZ many) ∧ ∀ k, v7.ownBlock = some k → v8.ownBlock ≠ some k
section
variable {w wr w' w4 w5 w6 A B : World} {M : Nat} {F G : Nat → Prop} {s s2 : Sm} {who many : List Int} {v7 v8 : Value}
theorem KX.below (h : KX w M F s who many v7 v8 wr) (k : Below wr.heap.size wr w') : KX w M F s who many v7 v8 w' := ⟨h.1.below k, owns_below h.2.1 k, owns_below h.2.2.1 k, h.2.2.2⟩
theorem KX.boxed (h : KX w M none0 s who many v7 v8 wr) (o o2 : Obj) : KX w M (fun k => k = wr.heap.size) s who many v7 v8 ((wr.alloc o).alloc o2) := by
  have hb : Below wr.heap.size wr ((wr.alloc o).alloc o2) := (below1 wr o).alloc (by simp) o2
  have h' := h.below hb
  refine ⟨?_, h'.2⟩
  obtain ⟨h1, ⟨v, h2, h3⟩, h4⟩ := h.1
  refine ⟨h1, ⟨v, h2.below hb, fun k hk => ?_⟩, below_next h4 hb⟩
  rcases hk with hk | hk
  · exact ⟨Nat.lt_of_lt_of_le (h3 k (Or.inl hk)).1 hb.size, (h3 k (Or.inl hk)).2⟩
  · exact ⟨by rw [hk]; simp; omega, fun m => by have := h2.mine_lt m; omega⟩
/-- Behind a call. -/
theorem KX.kept {H : Nat → Prop} (h : KX w M F s who many v7 v8 wr) (k : Xs w M H s2 w') (hH : ∀ i, ((v7.ownBlock = some i ∨ v8.ownBlock = some i) ∨ F i) → H i) (hk : Kept (fun k => (v7.ownBlock = some k ∨ v8.ownBlock = some k) ∨ F k) wr w') : KX w M F s2 who many v7 v8 w' :=
  ⟨k.mono hH, owns_far h.2.1 fun j hj => hk.1 j (Or.inl (Or.inl hj)), owns_far h.2.2.1 fun j hj => hk.1 j (Or.inl (Or.inr hj)), h.2.2.2⟩
theorem KX.mono (h : KX w M F s who many v7 v8 wr) (k : ∀ i, G i → F i) : KX w M G s who many v7 v8 wr := ⟨h.1.mono fun i hi => hi.imp id (k i), h.2⟩
theorem grown_movB {b : Option Nat} (hb : Below w4.heap.size w4 A) (hg : A.grownBy w5 b) : Mov (fun j => b = some j) w4 w5 :=
  ⟨hg.os.trans hb.os, hg.tape.trans hb.tape, hg.output.trans hb.output, Nat.le_trans hb.size hg.size, fun k hk hS => (hg.block k (Nat.lt_of_lt_of_le hk hb.size) (fun e => hS e.symm)).trans (hb.block k hk)⟩
/-- A row is appended to, then the other. -/
theorem KX.two {x7 x8 : Value} {who2 many2 : List Int} (h : KX w M F s who many v7 v8 w4) (hA : Below w4.heap.size w4 A) (hg5 : A.grownBy w5 v7.ownBlock) (hat5 : x7.ownBlock = v7.ownBlock ∨ x7.ownBlock = some A.heap.size) (ho5 : w5.ownsRow w.heap.size 3 1 x7 who2.length (cZ who2))
    (hB : Below w5.heap.size w5 B) (hg6 : B.grownBy w6 v8.ownBlock) (hat6 : x8.ownBlock = v8.ownBlock ∨ x8.ownBlock = some B.heap.size) (ho6 : w6.ownsRow w.heap.size 3 1 x8 who2.length (cZ many2)) : KX w M none0 s who2 many2 x7 x8 w6 := by
  have m5 := grown_movB hA hg5
  have m6 := grown_movB hB hg6
  obtain ⟨hX, k7, k8, dj⟩ := h
  have lt7 := fun k hk => k7.lt k hk
  have lt8 := fun k hk => k8.lt k hk
  have hzA := hA.size
  have hz5 := m5.size
  have hzB := hB.size
  have n7 : ∀ k, x7.ownBlock = some k → w4.heap.size ≤ k ∨ v7.ownBlock = some k := fun k hk => by
    rcases hat5 with e | e
    · exact Or.inr (e.symm.trans hk)
    · have := Option.some.inj (e.symm.trans hk); exact Or.inl (by omega)
  have n8 : ∀ k, x8.ownBlock = some k → w4.heap.size ≤ k ∨ v8.ownBlock = some k := fun k hk => by
    rcases hat6 with e | e
    · exact Or.inr (e.symm.trans hk)
    · have := Option.some.inj (e.symm.trans hk); exact Or.inl (by omega)
  have a8 : ∀ k, x7.ownBlock = some k → v8.ownBlock ≠ some k := fun k hk e => by
    rcases n7 k hk with q | q
    · have := (lt8 k e).2; omega
    · exact dj k q e
  have o7 : w6.ownsRow w.heap.size 3 1 x7 who2.length (cZ who2) := owns_far ho5 fun k hk => m6.block k (ho5.lt k hk).2 (fun e => a8 k hk e)
  have dj2 : ∀ k, x7.ownBlock = some k → x8.ownBlock ≠ some k := fun k hk e => by
    rcases hat6 with q | q
    · exact a8 k hk (q.symm.trans e)
    · have e1 := Option.some.inj (q.symm.trans e)
      have := (ho5.lt k hk).2
      omega
  have mm : Mov (fun j => v7.ownBlock = some j ∨ v8.ownBlock = some j) w4 w6 := ((Mov.refl _ w4).thn m5 (fun i hi => Or.inr (Or.inl hi))).thn m6 (fun i hi => Or.inr (Or.inr hi))
  obtain ⟨h1, ⟨v, h2, h3⟩, h4⟩ := hX
  refine ⟨⟨h1, ⟨v, h2.keep fun k hk => mm.block k (h2.mine_lt hk) (fun e => (h3 k (Or.inl e)).2 hk), fun k hk => ?_⟩, h4.trans (mm.below h4.size ?_)⟩, o7, ho6, dj2⟩
  · rcases hk with (hk | hk) | hk
    · refine ⟨(o7.lt k hk).2, fun m => ?_⟩
      rcases n7 k hk with q | q
      · have := h2.mine_lt m; omega
      · exact (h3 k (Or.inl (Or.inl q))).2 m
    · refine ⟨(ho6.lt k hk).2, fun m => ?_⟩
      rcases n8 k hk with q | q
      · have := h2.mine_lt m; omega
      · exact (h3 k (Or.inl (Or.inr q))).2 m
    · exact hk.elim
  · rintro k (hk | hk)
    · exact (lt7 k hk).1
    · exact (lt8 k hk).1
theorem KX.start (h : Xs w M none0 s wr) : KX w M none0 s [] [] (.slice (some ⟨wr.heap.size, 0, none⟩) 0 0) (.slice (some ⟨wr.heap.size + 1, 0, none⟩) 0 0) ((wr.alloc (.cells #[] 3)).alloc (.cells #[] 3)) := by
  have hb : Below wr.heap.size wr ((wr.alloc (.cells #[] 3)).alloc (.cells #[] 3)) := (below1 wr _).alloc (by simp) _
  have e1 : (wr.alloc (.cells #[] 3)).heap.size = wr.heap.size + 1 := by simp
  have l2 := lit0 (wr.alloc (.cells #[] 3))
  rw [e1] at l2
  refine ⟨?_, owns_base (owns_below (lit0 wr) (below1 _ _)) h.size, owns_base l2 (by have := h.size; omega), fun k hk e => ?_⟩
  · obtain ⟨h1, ⟨v, h2, h3⟩, h4⟩ := h
    refine ⟨h1, ⟨v, h2.below hb, fun k hk => ?_⟩, below_next h4 hb⟩
    have hk' : k = wr.heap.size ∨ k = wr.heap.size + 1 := by
      rcases hk with (e | e) | e
      · left; simpa [Value.ownBlock] using e.symm
      · right; simpa [Value.ownBlock] using e.symm
      · exact e.elim
    refine ⟨?_, fun m => ?_⟩
    · rcases hk' with e | e <;> rw [e] <;> simp
      omega
    · have := h2.mine_lt m
      omega
  · simp [Value.ownBlock] at hk e
    omega
end

end Go.Proofs.Ytgldhlcdnijecaa
