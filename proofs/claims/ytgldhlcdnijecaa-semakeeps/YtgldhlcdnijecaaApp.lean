/-
  'append' of numbers that lie somewhere onto a row that the call owns: at a plain region's list, and as one step of a region that draws its order; and what a store of the row into the box leaves.
-/
import Derived.Test.YtgldhlcdnijecaaGive
namespace Go.Proofs.Ytgldhlcdnijecaa
open Go.RowKit

theorem run_none (a b : Option Addr) (n c k : Nat) (hnc : n ≤ c) (ty : TypeId) (w : World) : (Builtin.append_ #[31, 31] ty #[.slice a n c, .slice b 0 k]).run Try.prog w = .ok (.slice a n c) w := by
  have hu := Try.underlying31
  have hu3 := Try.underlying3
  cases a <;> cases b <;> simp [Builtin.append_, go_sem, hnc, Builtin.lenOf, Builtin.firstCells, loadCells, loadCellsFrom, storeCells]

theorem run_append_z (w : World) (ty : TypeId) (base : Nat) (v : Value) (n : Nat) (xs : List Int) (hown : w.ownsRow base 3 1 v n (cZ xs)) (a : Option Addr) (c m : Nat) (ys : List Int) (hm : ys.length = m) (hz : RowZ w a ys)
    (h63 : n + m ≤ 100000) (hbase : base ≤ w.heap.size) :
    ∃ ad' cap' w', (Builtin.append_ #[31, 31] ty #[v, .slice a m c]).run Try.prog w = .ok (.slice ad' (n + m) cap') w' ∧ w'.ownsRow base 3 1 (.slice ad' (n + m) cap') (n + m) (cZ (xs ++ ys)) ∧ w.grownBy w' v.ownBlock ∧
      ((Value.slice ad' (n + m) cap').ownBlock = v.ownBlock ∨ (Value.slice ad' (n + m) cap').ownBlock = some w.heap.size) := by
  obtain ⟨i0, hi, hz0, hz1, hz2⟩ := info_parts info3
  subst hm
  by_cases hn : ys = []
  · subst hn
    obtain ⟨a0, c0, rfl⟩ := owns_slice hown
    have hcap : n ≤ c0 := (row_cap hown).1
    exact ⟨a0, c0, w, run_none a0 a n c0 c hcap ty w, by simpa using hown, ⟨rfl, rfl, rfl, Nat.le_refl _, fun _ _ _ => rfl⟩, Or.inl rfl⟩
  · obtain ⟨g, off, rfl, hg, hc⟩ := hz hn
    have hnews : ∀ j q, (cZ ys)[j]? = some q → w.cell? ((⟨g, off, none⟩ : Addr).add j) = some q := fun j q hq => by
      have hj : j < ys.length := by rw [← cZ_len]; exact (List.getElem?_eq_some_iff.1 hq).1
      rw [add_none, hc j hj, ← hq, cZ_get ys hj]
    obtain ⟨v', w', hr, h2, h3, _, h5⟩ := run_append_own_at (P := Try.prog) w base 31 ty 3 i0 (.int .i64 0) 1 8 Try.underlying31 hi hz0 hz1 hz2 rfl (by omega) v n (cZ xs) hown ⟨g, off, none⟩ ys.length c (cZ ys) (by rw [cZ_len, Nat.mul_one]) hnews (cZ_ones ys) (by unfold maxLen; omega) (by omega) hbase
    obtain ⟨ad', cap', rfl⟩ := owns_slice h2
    exact ⟨ad', cap', w', hr, by rw [cZ_app]; exact h2, h3, h5⟩

theorem wpList_append_z (w : World) {ops : Array Oper} {rest : List Oper} {o : Oper} {a : Act} {Q : Exit → Act → World → Prop} (hgd : o.guard = none) (s x : Operand)
    (ho : o.op = .call { callee := .builtin .append, args := #[s, x], argTypes := #[31, 31] })
    (base : Nat) (v : Value) (n : Nat) (xs : List Int) (hs : a.eval s = v) (hown : w.ownsRow base 3 1 v n (cZ xs))
    (b : Option Addr) (m c : Nat) (ys : List Int) (hx : a.eval x = .slice b m c) (hm : ys.length = m) (hz : RowZ w b ys)
    (h63 : n + m ≤ 100000) (hbase : base ≤ w.heap.size)
    (h : ∀ ad' cap' w', w'.ownsRow base 3 1 (.slice ad' (n + m) cap') (n + m) (cZ (xs ++ ys)) → w.grownBy w' v.ownBlock → ((Value.slice ad' (n + m) cap').ownBlock = v.ownBlock ∨ (Value.slice ad' (n + m) cap').ownBlock = some w.heap.size) → wpList Try.prog ops Q rest (a.put o.dst (.slice ad' (n + m) cap')) w') :
    wpList Try.prog ops Q (o :: rest) a w := by
  obtain ⟨ad', cap', w', hr, h2, h3, h5⟩ := run_append_z w o.type base v n xs hown b c m ys hm hz h63 hbase
  refine wpList_plain hgd fun K hK' => ?_
  unfold Oper.wp execOp
  simp only [ho, resolve, invoke, builtin, Sem.run_bind, Sem.run_pure, Result.andThen_ok, List.map_toArray, List.map_cons, List.map_nil, hs, hx, hr]
  exact hK' _ _ (h ad' cap' w' h2 h3 h5)

theorem step_append_z (w : World) {ops : Array Oper} {o : Oper} {a : Act} {K : Act → World → Prop} {Q : Exit → Act → World → Prop} {E : Prop} (hgd : o.guard = none) (s x : Operand)
    (ho : o.op = .call { callee := .builtin .append, args := #[s, x], argTypes := #[31, 31] })
    (base : Nat) (v : Value) (n : Nat) (xs : List Int) (hs : a.eval s = v) (hown : w.ownsRow base 3 1 v n (cZ xs))
    (b : Option Addr) (m c : Nat) (ys : List Int) (hx : a.eval x = .slice b m c) (hm : ys.length = m) (hz : RowZ w b ys)
    (h63 : n + m ≤ 100000) (hbase : base ≤ w.heap.size)
    (h : ∀ ad' cap' w', w'.ownsRow base 3 1 (.slice ad' (n + m) cap') (n + m) (cZ (xs ++ ys)) → w.grownBy w' v.ownBlock → ((Value.slice ad' (n + m) cap').ownBlock = v.ownBlock ∨ (Value.slice ad' (n + m) cap').ownBlock = some w.heap.size) → K (a.put o.dst (.slice ad' (n + m) cap')) w') :
    if Region.wanted o (yielded ops a.tmps) = true then Oper.wp Try.prog o a w K Q else E := by
  have hw : Region.wanted o (yielded ops a.tmps) = true := by simp [Region.wanted, hgd]
  rw [if_pos hw]
  obtain ⟨ad', cap', w', hr, h2, h3, h5⟩ := run_append_z w o.type base v n xs hown b c m ys hm hz h63 hbase
  unfold Oper.wp execOp
  simp only [ho, resolve, invoke, builtin, Sem.run_bind, Sem.run_pure, Result.andThen_ok, List.map_toArray, List.map_cons, List.map_nil, hs, hx, hr]
  exact h ad' cap' w' h2 h3 h5

theorem lit0 (w : World) : (w.alloc (.cells #[] 3)).ownsRow w.heap.size 3 1 (.slice (some ⟨w.heap.size, 0, none⟩) 0 0) 0 (cZ []) := World.ownsRow_lit w #[] 0 (Nat.le_refl _) (by unfold maxLen; omega) rfl
theorem below_own {W a b : World} {n : Nat} {v : Value} {xs : List Value} (h : Below W.heap.size W a) (ho : a.ownsRow W.heap.size 3 1 v n xs) (hg : a.grownBy b v.ownBlock) : Below W.heap.size W b :=
  h.grown hg h.size (fun j hj => (ho.lt j hj).1)
theorem step_copy_z (w : World) {ops : Array Oper} {o : Oper} {a : Act} {K : Act → World → Prop} {Q : Exit → Act → World → Prop} {E : Prop} (hgd : o.guard = none) (s x : Operand)
    (ho : o.op = .call { callee := .builtin .append, args := #[s, x], argTypes := #[31, 31] })
    (base : Nat) (v : Value) (hs : a.eval s = v) (hown : w.ownsRow base 3 1 v 0 (cZ []))
    (b : Option Addr) (m c : Nat) (ys : List Int) (hx : a.eval x = .slice b m c) (hm : ys.length = m) (hz : RowZ w b ys)
    (h63 : m ≤ 100000) (hbase : base ≤ w.heap.size)
    (h : ∀ ad' cap' w', w'.ownsRow base 3 1 (.slice ad' m cap') m (cZ ys) → w.grownBy w' v.ownBlock → K (a.put o.dst (.slice ad' m cap')) w') :
    if Region.wanted o (yielded ops a.tmps) = true then Oper.wp Try.prog o a w K Q else E := by
  refine step_append_z w hgd s x ho base v 0 [] hs hown b m c ys hx hm hz (by omega) hbase ?_
  intro ad' cap' w' h2 h3 _
  simp only [Nat.zero_add, List.nil_append] at h2 ⊢
  exact h ad' cap' w' h2 h3
theorem take_z {w : World} {g off : Nat} {l : List Int} (h : RowZ w (some ⟨g, off, none⟩) l) (hn : 0 < l.length) (k : Nat) : RowZ w (some ⟨g, off, none⟩) (l.take k) := fun _ => by
  obtain ⟨g', o', e, h2, h3⟩ := h (List.length_pos_iff.1 hn)
  cases e
  refine ⟨g, off, rfl, h2, fun j hj => ?_⟩
  rw [List.length_take] at hj
  rw [h3 j (by omega)]
  congr 2
  unfold gz
  rw [List.getD_eq_getElem?_getD, List.getD_eq_getElem?_getD, List.getElem?_take, if_pos (by omega)]
theorem drop_z {w : World} {g off : Nat} {l : List Int} (h : RowZ w (some ⟨g, off, none⟩) l) (hn : 0 < l.length) (k : Nat) : RowZ w (some ⟨g, off + k, none⟩) (l.drop k) := fun _ => by
  obtain ⟨g', o', e, h2, h3⟩ := h (List.length_pos_iff.1 hn)
  cases e
  refine ⟨g, off + k, rfl, h2, fun j hj => ?_⟩
  rw [List.length_drop] at hj
  rw [Nat.add_assoc, h3 (k + j) (by omega)]
  congr 2
  unfold gz
  rw [List.getD_eq_getElem?_getD, List.getD_eq_getElem?_getD, List.getElem?_drop]

theorem one_z {W : World} {g : Nat} {t : Int} (hg : g < W.heap.size) (h : W.cell? ⟨g, 0, none⟩ = some (.int .i64 t)) : RowZ W (some ⟨g, 0, none⟩) [t] := fun _ => ⟨g, 0, rfl, hg, fun k hk => by
  obtain rfl : k = 0 := by simp at hk; omega
  exact h⟩


/-- The document's box, with whatever two rows. -/
structure AtQ (w : World) (R base : Nat) (u : Vs) (n k : Int) (la lb : List Int) : Prop where
  box : w.heap[R]? = some (.cells #[.int .i64 n, .int .i64 k, u.a, u.b] 33 (0, 0))
  ra : w.ownsRow base 3 1 u.a la.length (cZ la)
  rb : w.ownsRow base 3 1 u.b lb.length (cZ lb)
theorem AtR.q {w : World} {R base : Nat} {u : Vs} {s : Sm} (h : AtR w R base u s) : AtQ w R base u s.n (s.n - s.f) (ts s.q) (us s.q) := ⟨h.box, by rw [ts_len]; exact h.ra, by rw [us_len]; exact h.rb⟩
theorem AtQ.r {w : World} {R base : Nat} {u : Vs} {n f : Int} {q : List Wt} (h : AtQ w R base u n (n - f) (ts q) (us q)) : AtR w R base u ⟨n, f, q⟩ := ⟨h.box, by have := h.ra; rw [ts_len] at this; exact this, by have := h.rb; rw [us_len] at this; exact this⟩
def NowQ (R base : Nat) (u : Vs) (n k : Int) (la lb : List Int) (w w' : World) : Prop := ∃ u', AtQ w' R base u' n k la lb ∧ Mov (MineR R u) w w' ∧ ∀ j, MineR R u' j → w.heap.size ≤ j ∨ MineR R u j
theorem NowQ.r {w w' : World} {R base : Nat} {u : Vs} {n f : Int} {q : List Wt} (h : NowQ R base u n (n - f) (ts q) (us q) w w') : NowR R base u ⟨n, f, q⟩ w w' := by
  obtain ⟨u', h1, h2, h3⟩ := h
  exact ⟨u', h1.r, h2, h3⟩
section
variable {w w' w3 : World} {R base : Nat} {u : Vs} {n k : Int} {la lb : List Int}
theorem AtQ.lt (h : AtQ w R base u n k la lb) : R < w.heap.size := (Array.getElem?_eq_some_iff.1 h.box).1
theorem AtQ.far (h : AtQ w R base u n k la lb) : u.a.ownBlock ≠ some R ∧ u.b.ownBlock ≠ some R := ⟨row_box h.ra h.box (by decide), row_box h.rb h.box (by decide)⟩
theorem AtQ.below (h : AtQ w R base u n k la lb) (m : Below w.heap.size w w') : AtQ w' R base u n k la lb := ⟨(m.block R h.lt).trans h.box, owns_below h.ra m, owns_below h.rb m⟩
theorem AtQ.cells (h : AtQ w R base u n k la lb) : w.cell? ⟨R, 0, none⟩ = some (.int .i64 n) ∧ w.cell? ⟨R, 1, none⟩ = some (.int .i64 k) ∧ w.cell? ⟨R, 2, none⟩ = some u.a ∧ w.cell? ⟨R, 3, none⟩ = some u.b ∧ (∀ j, w.frozen? ⟨R, j, none⟩ = false) :=
  ⟨Lib.cell_of_heap h.box 0, Lib.cell_of_heap h.box 1, Lib.cell_of_heap h.box 2, Lib.cell_of_heap h.box 3, fun j => Lib.frozen_of_heap h.box j⟩
theorem NowQ.next {w1 w2 : World} {u1 : Vs} (h2 : Mov (MineR R u) w w1) (h3 : ∀ j, MineR R u1 j → w.heap.size ≤ j ∨ MineR R u j) (m : NowQ R base u1 n k la lb w1 w2) : NowQ R base u n k la lb w w2 := by
  obtain ⟨v2, k1, k2, k3⟩ := m
  have hz := h2.size
  refine ⟨v2, k1, h2.thn k2 fun i hi => h3 i hi, fun j hj => ?_⟩
  rcases k3 j hj with q | q
  · exact Or.inl (by omega)
  · exact h3 j q
/-- A new row for the first one. -/
theorem NowQ.setA {a : Value} {l : List Int} (h : AtQ w R base u n k la lb) (hbs : base ≤ w.heap.size) (m : Below w.heap.size w w3) (ha : w3.ownsRow w.heap.size 3 1 a l.length (cZ l)) : AtQ (w3.setCell ⟨R, 2, none⟩ a) R base ⟨a, u.b⟩ n k l lb ∧ Mov (MineR R u) w (w3.setCell ⟨R, 2, none⟩ a) ∧ ∀ j, MineR R ⟨a, u.b⟩ j → w.heap.size ≤ j ∨ MineR R u j := by
  have h3 := h.below m
  have fa : a.ownBlock ≠ some R := row_box ha h3.box (by decide)
  have hA : AtQ (w3.setCell ⟨R, 2, none⟩ a) R base ⟨a, u.b⟩ n k l lb := ⟨box_set h3.box, row_set (owns_base ha hbs) fa, row_set h3.rb h3.far.2⟩
  refine ⟨hA, (Mov.of_below m).set (p := ⟨R, 2, none⟩) (Or.inl rfl) _, ?_⟩
  rintro j (e | e | e)
  · exact Or.inr (Or.inl e)
  · exact Or.inl (ha.lt j e).1
  · exact Or.inr (Or.inr (Or.inr e))
theorem NowQ.setB {a : Value} {l : List Int} (h : AtQ w R base u n k la lb) (hbs : base ≤ w.heap.size) (m : Below w.heap.size w w3) (ha : w3.ownsRow w.heap.size 3 1 a l.length (cZ l)) : AtQ (w3.setCell ⟨R, 3, none⟩ a) R base ⟨u.a, a⟩ n k la l ∧ Mov (MineR R u) w (w3.setCell ⟨R, 3, none⟩ a) ∧ ∀ j, MineR R ⟨u.a, a⟩ j → w.heap.size ≤ j ∨ MineR R u j := by
  have h3 := h.below m
  have fa : a.ownBlock ≠ some R := row_box ha h3.box (by decide)
  have hA : AtQ (w3.setCell ⟨R, 3, none⟩ a) R base ⟨u.a, a⟩ n k la l := ⟨box_set h3.box, row_set h3.ra h3.far.1, row_set (owns_base ha hbs) fa⟩
  refine ⟨hA, (Mov.of_below m).set (p := ⟨R, 3, none⟩) (Or.inl rfl) _, ?_⟩
  rintro j (e | e | e)
  · exact Or.inr (Or.inl e)
  · exact Or.inr (Or.inr (Or.inl e))
  · exact Or.inl (ha.lt j e).1
end

end Go.Proofs.Ytgldhlcdnijecaa
