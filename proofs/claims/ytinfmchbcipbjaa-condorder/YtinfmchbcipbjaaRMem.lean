/-
  Two rows of the document's, to each of which one is appended: what lies in memory on the way.
-/
import Derived.Test.YtinfmchbcipbjaaRead
namespace Go.Proofs.Ytinfmchbcipbjaa
open Go.RowKit

/-- A box of one value, newly laid. -/
structure Lit (w0 : World) (g : Nat) (x : Value) (w : World) : Prop where
  ge : w0.heap.size ≤ g
  lt : g < w.heap.size
  cell : w.cell? ⟨g, 0, none⟩ = some x
theorem Lit.below {w0 w w' : World} {g : Nat} {x : Value} (h : Lit w0 g x w) (k : Below w.heap.size w w') : Lit w0 g x w' := ⟨h.ge, Nat.lt_of_lt_of_le h.lt k.size, (k.cell (p := ⟨g, 0, none⟩) h.lt).trans h.cell⟩
theorem Lit.row {w0 w : World} {g : Nat} {t : Int} (h : Lit w0 g (.int .i64 t) w) : RowZ w (some ⟨g, 0, none⟩) [t] := one_z h.lt h.cell

section
variable {ops : Array Oper} {Q' : Exit → Act → World → Prop}
theorem step_lit_z {o : Oper} {a : Act} {w : World} {K : Act → World → Prop} {E : Prop} {x : Nat} {t : Int} {w0 : World} (hb : w0.heap.size ≤ w.heap.size) (hg : o.guard = none) (ho : o.op = .buildSlice 26 1 #[(0, .tmp x)]) (hx : a.eval (.tmp x) = .int .i64 t)
    (h : ∀ g w', Below w.heap.size w w' → Lit w0 g (.int .i64 t) w' → K (a.put o.dst (.slice (some ⟨g, 0, none⟩) 1 1)) w') :
    if Region.wanted o (yielded ops a.tmps) = true then Oper.wp Try.prog o a w K Q' else E := by
  rw [if_pos (by simp [Region.wanted, hg])]
  have h' := h w.heap.size (w.alloc (.cells #[.int .i64 t] 3)) (below1 _ _) ⟨hb, by simp, Lib.cell_of_heap (heap_alloc_new _ _) 0⟩
  unfold Oper.wp execOp
  simp only [ho]
  have e : Array.map (fun x => (x.fst, a.eval x.snd)) #[(0, Operand.tmp x)] = #[(0, Value.int .i64 t)] := by simp [hx]
  rw [e]
  go_simp
  exact h'
theorem step_lit_b {o : Oper} {a : Act} {w : World} {K : Act → World → Prop} {E : Prop} {w0 : World} (hb : w0.heap.size ≤ w.heap.size) (hg : o.guard = none) (ho : o.op = .buildSlice 27 1 #[(0, .const (.bool true))])
    (h : ∀ g w', Below w.heap.size w w' → Lit w0 g (.bool true) w' → K (a.put o.dst (.slice (some ⟨g, 0, none⟩) 1 1)) w') :
    if Region.wanted o (yielded ops a.tmps) = true then Oper.wp Try.prog o a w K Q' else E := by
  rw [if_pos (by simp [Region.wanted, hg])]
  have h' := h w.heap.size (w.alloc (.cells #[.bool true] 4)) (below1 _ _) ⟨hb, by simp, Lib.cell_of_heap (heap_alloc_new _ _) 0⟩
  unfold Oper.wp execOp
  simp only [ho]
  have e : Array.map (fun x => (x.fst, a.eval x.snd)) #[(0, Operand.const (Value.bool true))] = #[(0, Value.bool true)] := by simp [go_sem]
  rw [e]
  go_simp
  exact h'
end

/-- One row has grown. -/
structure Half (w0 : World) (R base : Nat) (u : Vs) (x : Value) (q : Q) (t : Int) (w : World) : Prop where
  box : w.heap[R]? = some (.cells #[u.a, u.b] 29 (0, 0))
  ra : w.ownsRow base 3 1 x (q.length + 1) (cZ (ids q ++ [t]))
  rb : w.ownsRow base 4 1 u.b q.length (cB (hs q))
  mov : Mov (MineR R u) w0 w
  new : ∀ k, x.ownBlock = some k → w0.heap.size ≤ k ∨ u.a.ownBlock = some k
/-- Both have. -/
structure Full (w0 : World) (R base : Nat) (u : Vs) (x y : Value) (q : Q) (t : Int) (w : World) : Prop where
  box : w.heap[R]? = some (.cells #[u.a, u.b] 29 (0, 0))
  ra : w.ownsRow base 3 1 x (q.length + 1) (cZ (ids q ++ [t]))
  rb : w.ownsRow base 4 1 y (q.length + 1) (cB (hs q ++ [true]))
  mov : Mov (MineR R u) w0 w
  new : ∀ k, x.ownBlock = some k → w0.heap.size ≤ k ∨ u.a.ownBlock = some k
  newb : ∀ k, y.ownBlock = some k → w0.heap.size ≤ k ∨ u.b.ownBlock = some k
section
variable {w0 w w' : World} {R base g : Nat} {u : Vs} {x y v : Value} {q : Q} {t : Int}
theorem half_of (h : AtR w0 R base u q) (hb : Below w0.heap.size w0 w) (ho : w'.ownsRow base 3 1 x (q.length + 1) (cZ (ids q ++ [t]))) (hg : w.grownBy w' u.a.ownBlock) (hat : x.ownBlock = u.a.ownBlock ∨ x.ownBlock = some w.heap.size) : Half w0 R base u x q t w' := by
  have h1 := h.below hb
  refine ⟨(hg.block R h1.lt (fun e => h1.far.1 e.symm)).trans h1.box, ho, owns_far h1.rb fun k hk => hg.block k (h1.rb.lt k hk).2 (fun e => h1.apart k hk e.symm), ⟨hg.os.trans hb.os, hg.tape.trans hb.tape, hg.output.trans hb.output, Nat.le_trans hb.size hg.size, fun k hk hS => ?_⟩, fun k hk => ?_⟩
  · exact (hg.block k (Nat.lt_of_lt_of_le hk hb.size) (fun e => hS (Or.inr (Or.inl e.symm)))).trans (hb.block k hk)
  · rcases hat with e | e
    · exact Or.inr (e.symm.trans hk)
    · exact Or.inl (by have := Option.some.inj (hk.symm.trans e); have := hb.size; omega)
theorem Half.below (h : Half w0 R base u x q t w) (hR : R < w0.heap.size) (k : Below w.heap.size w w') : Half w0 R base u x q t w' :=
  ⟨(k.block R (Nat.lt_of_lt_of_le hR h.mov.size)).trans h.box, owns_below h.ra k, owns_below h.rb k, h.mov.thn (Mov.of_below (S := fun _ => False) k) (fun _ h => h.elim), h.new⟩
theorem Lit.half (l : Lit w0 g v w) (h : AtR w0 R base u q) (hg : w.grownBy w' u.a.ownBlock) : Lit w0 g v w' := by
  refine ⟨l.ge, Nat.lt_of_lt_of_le l.lt hg.size, (World.cell?_of_block (hg.block g l.lt fun e => ?_)).trans l.cell⟩
  have := (h.ra.lt g e.symm).2
  have := l.ge
  omega
theorem full_of (h : Half w0 R base u x q t w) (h0 : AtR w0 R base u q) (ho : w'.ownsRow base 4 1 y (q.length + 1) (cB (hs q ++ [true]))) (hg : w.grownBy w' u.b.ownBlock) (hat : y.ownBlock = u.b.ownBlock ∨ y.ownBlock = some w.heap.size) : Full w0 R base u x y q t w' := by
  have hz := h.mov.size
  refine ⟨(hg.block R (Nat.lt_of_lt_of_le h0.lt hz) (fun e => h0.far.2 e.symm)).trans h.box, owns_far h.ra fun k hk => hg.block k (h.ra.lt k hk).2 (fun e => rows_apart h.rb h.ra k e.symm hk), ho, ⟨hg.os.trans h.mov.os, hg.tape.trans h.mov.tape, hg.output.trans h.mov.output, Nat.le_trans hz hg.size, fun k hk hS => ?_⟩, h.new, fun k hk => ?_⟩
  · exact (hg.block k (Nat.lt_of_lt_of_le hk hz) (fun e => hS (Or.inr (Or.inr e.symm)))).trans (h.mov.block k hk hS)
  · rcases hat with e | e
    · exact Or.inr (e.symm.trans hk)
    · exact Or.inl (by have := Option.some.inj (hk.symm.trans e); omega)
theorem Half.cells (h : Half w0 R base u x q t w) : w.cell? ⟨R, 0, none⟩ = some u.a ∧ w.cell? ⟨R, 1, none⟩ = some u.b := ⟨Lib.cell_of_heap h.box 0, Lib.cell_of_heap h.box 1⟩
theorem Full.cells (h : Full w0 R base u x y q t w) : w.cell? ⟨R, 0, none⟩ = some u.a ∧ w.cell? ⟨R, 1, none⟩ = some u.b ∧ (∀ j, w.frozen? ⟨R, j, none⟩ = false) := ⟨Lib.cell_of_heap h.box 0, Lib.cell_of_heap h.box 1, fun j => Lib.frozen_of_heap h.box j⟩
/-- .. and both are stored into the box. -/
theorem Full.done (h : Full w0 R base u x y q t w) : NowR R base u (q ++ [(t, true)]) w0 ((w.setCell ⟨R, 0, none⟩ x).setCell ⟨R, 1, none⟩ y) := by
  have fx : x.ownBlock ≠ some R := row_box h.ra h.box (by decide)
  have fy : y.ownBlock ≠ some R := rowB_box h.rb h.box (by decide)
  have e1 : ids (q ++ [(t, true)]) = ids q ++ [t] := by simp [ids]
  have e2 : hs (q ++ [(t, true)]) = hs q ++ [true] := by simp [hs]
  have e3 : (q ++ [(t, true)]).length = q.length + 1 := by simp
  refine ⟨⟨x, y⟩, ⟨box_set (box_set h.box), ?_, ?_⟩, (h.mov.set (p := ⟨R, 0, none⟩) (Or.inl rfl) _).set (p := ⟨R, 1, none⟩) (Or.inl rfl) _, ?_⟩
  · rw [e1, e3]; exact row_set (row_set h.ra fx) fx
  · rw [e2, e3]; exact row_set (row_set h.rb fy) fy
  · rintro k (e | e | e)
    · exact Or.inr (Or.inl e)
    · exact (h.new k e).imp id fun p => Or.inr (Or.inl p)
    · exact (h.newb k e).imp id fun p => Or.inr (Or.inr p)
end

end Go.Proofs.Ytinfmchbcipbjaa
