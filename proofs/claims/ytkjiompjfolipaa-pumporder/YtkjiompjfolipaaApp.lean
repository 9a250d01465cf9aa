/-
  'append' of numbers that lie somewhere onto a row that the call owns: at a plain region's list, and as one step of a region that draws its order; and what a store of the row into the box leaves.
-/
import Derived.Test.YtkjiompjfolipaaBase
namespace Go.Proofs.Ytkjiompjfolipaa
open Go.RowKit

theorem run_none (a b : Option Addr) (n c k : Nat) (hnc : n ≤ c) (ty : TypeId) (w : World) : (Builtin.append_ #[37, 37] ty #[.slice a n c, .slice b 0 k]).run Try.prog w = .ok (.slice a n c) w := by
  have hu := Try.underlying37
  have hu3 := Try.underlying3
  cases a <;> cases b <;> simp [Builtin.append_, go_sem, hnc, Builtin.lenOf, Builtin.firstCells, loadCells, loadCellsFrom, storeCells]

theorem run_append_z (w : World) (ty : TypeId) (base : Nat) (v : Value) (n : Nat) (xs : List Int) (hown : w.ownsRow base 3 1 v n (cZ xs)) (a : Option Addr) (c m : Nat) (ys : List Int) (hm : ys.length = m) (hz : RowZ w a ys)
    (h63 : n + m ≤ 100000) (hbase : base ≤ w.heap.size) :
    ∃ ad' cap' w', (Builtin.append_ #[37, 37] ty #[v, .slice a m c]).run Try.prog w = .ok (.slice ad' (n + m) cap') w' ∧ w'.ownsRow base 3 1 (.slice ad' (n + m) cap') (n + m) (cZ (xs ++ ys)) ∧ w.grownBy w' v.ownBlock ∧
      ((Value.slice ad' (n + m) cap').ownBlock = v.ownBlock ∨ (Value.slice ad' (n + m) cap').ownBlock = some w.heap.size) := by
  obtain ⟨i0, hi, hz0, hz1, hz2⟩ := info_parts info3
  subst hm
  by_cases hn : ys = []
  · subst hn
    obtain ⟨a0, c0, rfl⟩ := owns_slice hown
    have hcap : n ≤ c0 := (row_cap hown).1
    exact ⟨a0, c0, w, run_none a0 a n c0 c hcap ty w, by simpa using hown, ⟨rfl, rfl, rfl, Nat.le_refl _, fun _ _ _ => rfl⟩, Or.inl rfl⟩
  · obtain ⟨g, off, rfl, hg, hc⟩ := hz hn
    have hnews : ∀ j q, (cZ ys)[j]? = some q → w.cell? ((⟨g, off, none⟩ : Addr).add j) = some q := fun j q hq => by
      have hj : j < ys.length := by rw [← cZ_len]; exact (List.getElem?_eq_some_iff.1 hq).1
      rw [add_none, hc j hj, ← hq, cZ_get ys hj]
    obtain ⟨v', w', hr, h2, h3, _, h5⟩ := run_append_own_at (P := Try.prog) w base 37 ty 3 i0 (.int .i64 0) 1 8 Try.underlying37 hi hz0 hz1 hz2 rfl (by omega) v n (cZ xs) hown ⟨g, off, none⟩ ys.length c (cZ ys) (by rw [cZ_len, Nat.mul_one]) hnews (cZ_ones ys) (by unfold maxLen; omega) (by omega) hbase
    obtain ⟨ad', cap', rfl⟩ := owns_slice h2
    exact ⟨ad', cap', w', hr, by rw [cZ_app]; exact h2, h3, h5⟩

theorem wpList_append_z (w : World) {ops : Array Oper} {rest : List Oper} {o : Oper} {a : Act} {Q : Exit → Act → World → Prop} (hgd : o.guard = none) (s x : Operand)
    (ho : o.op = .call { callee := .builtin .append, args := #[s, x], argTypes := #[37, 37] })
    (base : Nat) (v : Value) (n : Nat) (xs : List Int) (hs : a.eval s = v) (hown : w.ownsRow base 3 1 v n (cZ xs))
    (b : Option Addr) (m c : Nat) (ys : List Int) (hx : a.eval x = .slice b m c) (hm : ys.length = m) (hz : RowZ w b ys)
    (h63 : n + m ≤ 100000) (hbase : base ≤ w.heap.size)
    (h : ∀ ad' cap' w', w'.ownsRow base 3 1 (.slice ad' (n + m) cap') (n + m) (cZ (xs ++ ys)) → w.grownBy w' v.ownBlock → wpList Try.prog ops Q rest (a.put o.dst (.slice ad' (n + m) cap')) w') :
    wpList Try.prog ops Q (o :: rest) a w := by
  obtain ⟨ad', cap', w', hr, h2, h3, _⟩ := run_append_z w o.type base v n xs hown b c m ys hm hz h63 hbase
  refine wpList_plain hgd fun K hK' => ?_
  unfold Oper.wp execOp
  simp only [ho, resolve, invoke, builtin, Sem.run_bind, Sem.run_pure, Result.andThen_ok, List.map_toArray, List.map_cons, List.map_nil, hs, hx, hr]
  exact hK' _ _ (h ad' cap' w' h2 h3)

theorem step_append_z (w : World) {ops : Array Oper} {o : Oper} {a : Act} {K : Act → World → Prop} {Q : Exit → Act → World → Prop} {E : Prop} (hgd : o.guard = none) (s x : Operand)
    (ho : o.op = .call { callee := .builtin .append, args := #[s, x], argTypes := #[37, 37] })
    (base : Nat) (v : Value) (n : Nat) (xs : List Int) (hs : a.eval s = v) (hown : w.ownsRow base 3 1 v n (cZ xs))
    (b : Option Addr) (m c : Nat) (ys : List Int) (hx : a.eval x = .slice b m c) (hm : ys.length = m) (hz : RowZ w b ys)
    (h63 : n + m ≤ 100000) (hbase : base ≤ w.heap.size)
    (h : ∀ ad' cap' w', w'.ownsRow base 3 1 (.slice ad' (n + m) cap') (n + m) (cZ (xs ++ ys)) → w.grownBy w' v.ownBlock → K (a.put o.dst (.slice ad' (n + m) cap')) w') :
    if Region.wanted o (yielded ops a.tmps) = true then Oper.wp Try.prog o a w K Q else E := by
  have hw : Region.wanted o (yielded ops a.tmps) = true := by simp [Region.wanted, hgd]
  rw [if_pos hw]
  obtain ⟨ad', cap', w', hr, h2, h3, _⟩ := run_append_z w o.type base v n xs hown b c m ys hm hz h63 hbase
  unfold Oper.wp execOp
  simp only [ho, resolve, invoke, builtin, Sem.run_bind, Sem.run_pure, Result.andThen_ok, List.map_toArray, List.map_cons, List.map_nil, hs, hx, hr]
  exact h ad' cap' w' h2 h3

theorem lit0 (w : World) : (w.alloc (.cells #[] 3)).ownsRow w.heap.size 3 1 (.slice (some ⟨w.heap.size, 0, none⟩) 0 0) 0 (cZ []) := World.ownsRow_lit w #[] 0 (Nat.le_refl _) (by unfold maxLen; omega) rfl
theorem below_own {W a b : World} {n : Nat} {v : Value} {xs : List Value} (h : Below W.heap.size W a) (ho : a.ownsRow W.heap.size 3 1 v n xs) (hg : a.grownBy b v.ownBlock) : Below W.heap.size W b :=
  h.grown hg h.size (fun j hj => (ho.lt j hj).1)
end Go.Proofs.Ytkjiompjfolipaa
