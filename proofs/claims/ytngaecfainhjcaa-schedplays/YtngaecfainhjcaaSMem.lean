/-
  Tasks in memory: the program's box, its arena and its row; and what a call may turn of them.
-/
import Derived.Test.YtngaecfainhjcaaMath
import Derived.Test.YtngaecfainhjcaaAAwake
import Derived.Sort.Row
namespace Go.Proofs.Ytngaecfainhjcaa
open Go.RowKit A

structure AtS (w : World) (S B P base : Nat) (v : Value) (s : Sc) : Prop where
  box : w.heap[S]? = some (.cells #[.pointer (some ⟨B, 0, none⟩), v] 49 (0, 0))
  a : AtA w B P s.a
  r : w.ownsRow base 3 1 v s.run.length (cI s.run)

def MineS (S B P : Nat) (v : Value) (k : Nat) : Prop := k = S ∨ k = B ∨ k = P ∨ v.ownBlock = some k
/-- What there is behind a call that may turn the tasks. -/
def NowS (S B P base : Nat) (v : Value) (s : Sc) (w w' : World) : Prop :=
  ∃ v', AtS w' S B P base v' s ∧ Mov (MineS S B P v) w w' ∧ ∀ k, v'.ownBlock = some k → w.heap.size ≤ k ∨ v.ownBlock = some k

theorem AtS.ltS {w : World} {S B P base : Nat} {v : Value} {s : Sc} (h : AtS w S B P base v s) : S < w.heap.size := (Array.getElem?_eq_some_iff.1 h.box).1
theorem AtS.ne {w : World} {S B P base : Nat} {v : Value} {s : Sc} (h : AtS w S B P base v s) : S ≠ B ∧ S ≠ P := by
  refine ⟨fun e => ?_, fun e => ?_⟩
  · subst e
    have := h.a.box.symm.trans h.box
    simp at this
  · subst e
    obtain ⟨cs, c1, _⟩ := h.a.row
    have := c1.symm.trans h.box
    simp at this
/-- A row of numbers is no box. -/
theorem row_box {w : World} {base n S : Nat} {v : Value} {xs : List Value} {cs : Array Value} {t : TypeId} {fr : Nat × Nat} (h : w.ownsRow base 3 1 v n xs) (hb : w.heap[S]? = some (.cells cs t fr)) (ht : t ≠ 3) : v.ownBlock ≠ some S := by
  intro e
  rcases h.2 with ⟨rfl, _⟩ | ⟨g, cap, cur, rfl, _, hh, _⟩
  · simp [Value.ownBlock] at e
  · simp [Value.ownBlock] at e
    subst e
    have := hb.symm.trans hh
    simp at this
    exact ht this.2.1
theorem AtS.far {w : World} {S B P base : Nat} {v : Value} {s : Sc} (h : AtS w S B P base v s) : v.ownBlock ≠ some S ∧ v.ownBlock ≠ some B ∧ v.ownBlock ≠ some P := by
  refine ⟨row_box h.r h.box (by decide), fun e => (own_other h.a h.r (by decide) (by decide) B e).1 rfl, fun e => (own_other h.a h.r (by decide) (by decide) P e).2 rfl⟩
theorem AtS.below {w w' : World} {S B P base : Nat} {v : Value} {s : Sc} (h : AtS w S B P base v s) (k : Below w.heap.size w w') : AtS w' S B P base v s :=
  ⟨(k.block _ h.ltS).trans h.box, h.a.below k, owns_below h.r k⟩
theorem AtS.cells {w : World} {S B P base : Nat} {v : Value} {s : Sc} (h : AtS w S B P base v s) : w.cell? ⟨S, 0, none⟩ = some (.pointer (some ⟨B, 0, none⟩)) ∧ w.cell? ⟨S, 1, none⟩ = some v ∧ (∀ j, w.frozen? ⟨S, j, none⟩ = false) :=
  ⟨Lib.cell_of_heap h.box 0, Lib.cell_of_heap h.box 1, fun j => Lib.frozen_of_heap h.box j⟩
/-- The arena turns, all else is as it was. -/
theorem AtS.turn {w w' : World} {S B P base : Nat} {v : Value} {s : Sc} {a : Ar} (h : AtS w S B P base v s) (ha : AtA w' B P a) (t : Turn B P w w') : AtS w' S B P base v ⟨a, s.run⟩ :=
  ⟨(t.block _ h.ltS h.ne.1 h.ne.2).trans h.box, ha, owns_turn h.a h.r (by decide) (by decide) t⟩
theorem mov_turn {w w' : World} {S B P : Nat} {v : Value} (t : Turn B P w w') : Mov (MineS S B P v) w w' :=
  ⟨t.os, t.tape, t.output, t.size, fun k hk hS => t.block k hk (fun e => hS (Or.inr (Or.inl e))) (fun e => hS (Or.inr (Or.inr (Or.inl e))))⟩
theorem A.Mov.trans {S : Nat → Prop} {a b c : World} (h : Mov S a b) (k : Mov S b c) : Mov S a c :=
  ⟨k.os.trans h.os, k.tape.trans h.tape, k.output.trans h.output, Nat.le_trans h.size k.size, fun i hi hS => (k.block i (Nat.lt_of_lt_of_le hi h.size) hS).trans (h.block i hi hS)⟩
/-- What is new may turn, too. -/
theorem A.Mov.thn {S T : Nat → Prop} {a b c : World} (h : Mov S a b) (k : Mov T b c) (hT : ∀ i, T i → a.heap.size ≤ i ∨ S i) : Mov S a c :=
  ⟨k.os.trans h.os, k.tape.trans h.tape, k.output.trans h.output, Nat.le_trans h.size k.size, fun i hi hS => (k.block i (Nat.lt_of_lt_of_le hi h.size) (fun e => by rcases hT i e with q | q; omega; exact hS q)).trans (h.block i hi hS)⟩
theorem NowS.same {w w' : World} {S B P base : Nat} {v : Value} {s : Sc} (h : AtS w S B P base v s) (k : Below w.heap.size w w') : NowS S B P base v s w w' :=
  ⟨v, h.below k, Mov.of_below k, fun _ hk => Or.inr hk⟩
theorem NowS.next {w w1 w2 : World} {S B P base : Nat} {v v1 : Value} {t : Sc} (h2 : Mov (MineS S B P v) w w1) (h3 : ∀ k, v1.ownBlock = some k → w.heap.size ≤ k ∨ v.ownBlock = some k) (k : NowS S B P base v1 t w1 w2) : NowS S B P base v t w w2 := by
  obtain ⟨v2, k1, k2, k3⟩ := k
  have hz := h2.size
  refine ⟨v2, k1, h2.thn k2 ?_, fun j hj => ?_⟩
  · rintro i (e | e | e | e)
    · exact Or.inr (Or.inl e)
    · exact Or.inr (Or.inr (Or.inl e))
    · exact Or.inr (Or.inr (Or.inr (Or.inl e)))
    · rcases h3 i e with q | q
      · exact Or.inl q
      · exact Or.inr (Or.inr (Or.inr (Or.inr q)))
  · rcases k3 j hj with q | q
    · exact Or.inl (by omega)
    · exact h3 j q
theorem AtS.mine_lt {w : World} {S B P base : Nat} {v : Value} {s : Sc} (h : AtS w S B P base v s) {k : Nat} (hk : MineS S B P v k) : k < w.heap.size := by
  rcases hk with e | e | e | e
  · rw [e]; exact h.ltS
  · rw [e]; exact h.a.ltB
  · rw [e]; exact h.a.ltP
  · exact (h.r.lt k e).2
theorem AtS.mine_ge {w : World} {S B P base : Nat} {v : Value} {s : Sc} (h : AtS w S B P base v s) (hS : base ≤ S) (hB : base ≤ B) (hP : base ≤ P) {k : Nat} (hk : MineS S B P v k) : base ≤ k := by
  rcases hk with e | e | e | e
  · rw [e]; exact hS
  · rw [e]; exact hB
  · rw [e]; exact hP
  · exact (h.r.lt k e).1
/-- Below where the tasks began nothing has turned. -/
theorem NowS.low {w w' : World} {S B P base n : Nat} {v : Value} {s t : Sc} (h : NowS S B P base v t w w') (ha : AtS w S B P base v s) (hS : base ≤ S) (hB : base ≤ B) (hP : base ≤ P) (hn : n ≤ base) (hb : n ≤ w.heap.size) : Below n w w' := by
  obtain ⟨_, _, h2, _⟩ := h
  exact h2.below hb fun k hk => Nat.le_trans hn (ha.mine_ge hS hB hP hk)

/-- The row is another one now. -/
theorem AtS.setRow {w5 : World} {S B P base : Nat} {v v' : Value} {s : Sc} {l : List Nat} (h : AtS w5 S B P base v s) (ho : w5.ownsRow base 3 1 v' l.length (cI l)) : AtS (w5.setCell ⟨S, 1, none⟩ v') S B P base v' ⟨s.a, l⟩ := by
  have hne := h.ne
  refine ⟨Lib.heap_setCell_same h.box v', h.a.same (Below.heap_setCell _ _ _ _ (Ne.symm hne.1)) (Below.heap_setCell _ _ _ _ (Ne.symm hne.2)), owns_far ho fun k hk => Below.heap_setCell _ _ _ _ (fun e => row_box ho h.box (by decide) (by rw [hk, e]))⟩
theorem AtS.grown {w w' : World} {S B P base : Nat} {v : Value} {s : Sc} (h : AtS w S B P base v s) {n : Nat} {u : Value} {xs : List Value} (ho : w.ownsRow base 3 1 u n xs) (hg : w.grownBy w' u.ownBlock) (hu : ∀ k, u.ownBlock = some k → v.ownBlock ≠ some k) : AtS w' S B P base v s :=
  ⟨(hg.block _ h.ltS (fun e => row_box ho h.box (by decide) e.symm)).trans h.box, h.a.grown ho (by decide) (by decide) hg, owns_far h.r fun k hk => hg.block k (h.r.lt k hk).2 (fun e => hu k e.symm hk)⟩

theorem newsI {W : World} {b : Nat} {v : Value} (h : W.cell? ⟨b, 0, none⟩ = some v) : ∀ j u, [v][j]? = some u → W.cell? ((⟨b, 0, none⟩ : Addr).add j) = some u := by
  intro j u hj
  match j, hj with
  | 0, hj => simp at hj; subst hj; simpa [Addr.add] using h
theorem onesI (x : Int) : ∀ u ∈ [Value.int .i64 x], u.oneCell' = true := by
  intro u hu
  simp at hu
  subst hu
  rfl

end Go.Proofs.Ytngaecfainhjcaa
