/-
  What the law CellReads asks comes out true at any two lists of acts.
-/
import Derived.Test.YthadcampbchihaaWrite
import Derived.Test.YthadcampbchihaaOne
namespace Go.Proofs.Ythadcampbchihaa
open Go.RowKit

/-- The program's and its two rows, and a row of what was told when the read began (x) and one of what was read (got). -/
structure GS (W0 : World) (M N T B0 B : Nat) (x : Value) (l0 : List Int) (s : Ws) (tl got : List Int) (v : Value) (w : World) : Prop where
  m : M < B0 ∧ N < B0 ∧ T < B0
  bb : B0 ≤ B
  sz : B ≤ w.heap.size
  rs : RS W0 M N T none0 s tl w
  want : w.ownsRow B0 3 1 x l0.length (cZ l0)
  got : w.ownsRow B 3 1 v got.length (cZ got)
  xb : ∀ j, x.ownBlock = some j → j < B
/-- The two rows' blocks. -/
def adr (x v : Value) (k : Nat) : Prop := x.ownBlock = some k ∨ v.ownBlock = some k
section
variable {W0 w w' w5 : World} {M N T B0 B : Nat} {x v v' : Value} {l0 tl tl2 got : List Int} {s s2 : Ws} {ob : Obj} {g : Int}
theorem GS.use (h : GS W0 M N T B0 B x l0 s tl got v w) : RS W0 M N T (adr x v) s tl w := h.rs.more fun j hj => by
  obtain ⟨m1, m2, m3⟩ := h.m
  have hb := h.bb
  rcases hj with q | q
  · obtain ⟨q1, q2⟩ := h.want.lt j q
    exact ⟨q2, by omega, by omega, by omega⟩
  · obtain ⟨q1, q2⟩ := h.got.lt j q
    exact ⟨q2, by omega, by omega, by omega⟩
theorem GS.next (h : GS W0 M N T B0 B x l0 s tl got v w) (k : RS W0 M N T (adr x v) s2 tl2 w') (hk : Kept (adr x v) w w') : GS W0 M N T B0 B x l0 s2 tl2 got v w' :=
  ⟨h.m, h.bb, Nat.le_trans h.sz hk.2, k.mono fun _ q => q.elim, owns_far h.want fun j hj => hk.1 j (Or.inl hj), owns_far h.got fun j hj => hk.1 j (Or.inr hj), h.xb⟩
theorem GS.below (h : GS W0 M N T B0 B x l0 s tl got v w) (k : Below w.heap.size w w') : GS W0 M N T B0 B x l0 s tl got v w' :=
  ⟨h.m, h.bb, Nat.le_trans h.sz k.size, h.rs.below k, owns_below h.want k, owns_below h.got k, h.xb⟩
/-- One more was read. -/
theorem GS.app (h : GS W0 M N T B0 B x l0 s tl got v w) (hg : (w.alloc ob).grownBy w5 v.ownBlock) (ho : w5.ownsRow B 3 1 v' (got.length + 1) (cZ (got ++ [g]))) : GS W0 M N T B0 B x l0 s tl (got ++ [g]) v' w5 := by
  have hm := grown_mov hg
  obtain ⟨m1, m2, m3⟩ := h.m
  have hb := h.bb
  have hv : ∀ j, v.ownBlock = some j → B ≤ j := fun j hj => (h.got.lt j hj).1
  have keep : ∀ j, j < w.heap.size → j < B → w5.heap[j]? = w.heap[j]? := fun j hj hjB => hm.block j hj fun e => by have := hv j e; omega
  have hsz := h.sz
  have hx := h.rs.xs
  have hlow : Below W0.heap.size W0 w5 := (hx.2.2.alloc hx.2.2.size ob).grown hg (by have := hx.2.2.size; simp; omega) (fun j hj => by have := hv j hj; have := h.rs.n0; omega)
  refine ⟨h.m, hb, Nat.le_trans hsz hm.size, ⟨h.rs.n0, h.rs.t0, h.rs.nt, fun _ q => q.elim, ⟨hx.1, ⟨hx.2.1.1.keep (keep M (by omega) (by omega)), fun j hj => ?_⟩, hlow⟩, (keep N (by omega) (by omega)).trans h.rs.now, (keep T (by omega) (by omega)).trans h.rs.told, h.rs.len, h.rs.same⟩, owns_far h.want fun j hj => keep j (by have := h.xb j hj; omega) (h.xb j hj), by simpa using ho, h.xb⟩
  have := hx.2.1.2 j hj
  exact ⟨Nat.lt_of_lt_of_le this.1 hm.size, this.2⟩
end

/-- If the number is the same and nobody writes, what was read is what was told. -/
structure Inv (s0 s : Ws) (got : List Int) : Prop where
  e : s0.e ≤ s.e
  q : s.e = s0.e → s.wr = 0 → s.l = s0.l ∧ got = s0.l.take got.length
theorem Inv.step {s0 s s2 : Ws} {got : List Int} (h : Inv s0 s got) (k : Step s s2) : Inv s0 s2 got := by
  obtain ⟨_, k2, k3⟩ := k
  have h1 := h.e
  refine ⟨Int.le_trans h1 k2, fun e1 e2 => ?_⟩
  obtain ⟨q1, q2⟩ := k3 (by omega) e2
  rw [q2]
  exact h.q (by omega) q1
theorem Inv.read {s0 s : Ws} {got : List Int} (h : Inv s0 s got) (hk : got.length < s.l.length) : Inv s0 s (got ++ [gz s.l got.length]) := ⟨h.e, fun e1 e2 => by
  obtain ⟨q1, q2⟩ := h.q e1 e2
  refine ⟨q1, ?_⟩
  rw [List.length_append, List.length_singleton, take_succ (by rw [← q1]; exact hk), ← q2, q1]⟩

end Go.Proofs.Ythadcampbchihaa
