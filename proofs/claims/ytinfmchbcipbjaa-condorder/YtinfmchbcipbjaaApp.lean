/-
  'append' of numbers that lie somewhere, and of one mark, onto a row that the call owns: at a plain region's list, and as one step of a region that draws its order.
-/
import Derived.Test.YtinfmchbcipbjaaFun
namespace Go.Proofs.Ytinfmchbcipbjaa
open Go.RowKit

theorem run_none (a b : Option Addr) (n c k : Nat) (hnc : n ≤ c) (ty : TypeId) (w : World) : (Builtin.append_ #[26, 26] ty #[.slice a n c, .slice b 0 k]).run Try.prog w = .ok (.slice a n c) w := by
  have hu := Try.underlying26
  have hu3 := Try.underlying3
  cases a <;> cases b <;> simp [Builtin.append_, go_sem, hnc, Builtin.lenOf, Builtin.firstCells, loadCells, loadCellsFrom, storeCells]

theorem run_append_z (w : World) (ty : TypeId) (base : Nat) (v : Value) (n : Nat) (xs : List Int) (hown : w.ownsRow base 3 1 v n (cZ xs)) (a : Option Addr) (c m : Nat) (ys : List Int) (hm : ys.length = m) (hz : RowZ w a ys)
    (h63 : n + m ≤ 100000) (hbase : base ≤ w.heap.size) :
    ∃ ad' cap' w', (Builtin.append_ #[26, 26] ty #[v, .slice a m c]).run Try.prog w = .ok (.slice ad' (n + m) cap') w' ∧ w'.ownsRow base 3 1 (.slice ad' (n + m) cap') (n + m) (cZ (xs ++ ys)) ∧ w.grownBy w' v.ownBlock ∧
      ((Value.slice ad' (n + m) cap').ownBlock = v.ownBlock ∨ (Value.slice ad' (n + m) cap').ownBlock = some w.heap.size) := by
  obtain ⟨i0, hi, hz0, hz1, hz2⟩ := info_parts info3
  subst hm
  by_cases hn : ys = []
  · subst hn
    obtain ⟨a0, c0, rfl⟩ := owns_slice hown
    have hcap : n ≤ c0 := (row_cap hown).1
    exact ⟨a0, c0, w, run_none a0 a n c0 c hcap ty w, by simpa using hown, ⟨rfl, rfl, rfl, Nat.le_refl _, fun _ _ _ => rfl⟩, Or.inl rfl⟩
  · obtain ⟨g, off, rfl, hg, hc⟩ := hz hn
    have hnews : ∀ j q, (cZ ys)[j]? = some q → w.cell? ((⟨g, off, none⟩ : Addr).add j) = some q := fun j q hq => by
      have hj : j < ys.length := by rw [← cZ_len]; exact (List.getElem?_eq_some_iff.1 hq).1
      rw [add_none, hc j hj, ← hq, cZ_get ys hj]
    obtain ⟨v', w', hr, h2, h3, _, h5⟩ := run_append_own_at (P := Try.prog) w base 26 ty 3 i0 (.int .i64 0) 1 8 Try.underlying26 hi hz0 hz1 hz2 rfl (by omega) v n (cZ xs) hown ⟨g, off, none⟩ ys.length c (cZ ys) (by rw [cZ_len, Nat.mul_one]) hnews (cZ_ones ys) (by unfold maxLen; omega) (by omega) hbase
    obtain ⟨ad', cap', rfl⟩ := owns_slice h2
    exact ⟨ad', cap', w', hr, by rw [cZ_app]; exact h2, h3, h5⟩

theorem wpList_append_z (w : World) {ops : Array Oper} {rest : List Oper} {o : Oper} {a : Act} {Q : Exit → Act → World → Prop} (hgd : o.guard = none) (s x : Operand)
    (ho : o.op = .call { callee := .builtin .append, args := #[s, x], argTypes := #[26, 26] })
    (base : Nat) (v : Value) (n : Nat) (xs : List Int) (hs : a.eval s = v) (hown : w.ownsRow base 3 1 v n (cZ xs))
    (b : Option Addr) (m c : Nat) (ys : List Int) (hx : a.eval x = .slice b m c) (hm : ys.length = m) (hz : RowZ w b ys)
    (h63 : n + m ≤ 100000) (hbase : base ≤ w.heap.size)
    (h : ∀ ad' cap' w', w'.ownsRow base 3 1 (.slice ad' (n + m) cap') (n + m) (cZ (xs ++ ys)) → w.grownBy w' v.ownBlock → ((Value.slice ad' (n + m) cap').ownBlock = v.ownBlock ∨ (Value.slice ad' (n + m) cap').ownBlock = some w.heap.size) → wpList Try.prog ops Q rest (a.put o.dst (.slice ad' (n + m) cap')) w') :
    wpList Try.prog ops Q (o :: rest) a w := by
  obtain ⟨ad', cap', w', hr, h2, h3, h5⟩ := run_append_z w o.type base v n xs hown b c m ys hm hz h63 hbase
  refine wpList_plain hgd fun K hK' => ?_
  unfold Oper.wp execOp
  simp only [ho, resolve, invoke, builtin, Sem.run_bind, Sem.run_pure, Result.andThen_ok, List.map_toArray, List.map_cons, List.map_nil, hs, hx, hr]
  exact hK' _ _ (h ad' cap' w' h2 h3 h5)

theorem step_append_z (w : World) {ops : Array Oper} {o : Oper} {a : Act} {K : Act → World → Prop} {Q : Exit → Act → World → Prop} {E : Prop} (hgd : o.guard = none) (s x : Operand)
    (ho : o.op = .call { callee := .builtin .append, args := #[s, x], argTypes := #[26, 26] })
    (base : Nat) (v : Value) (n : Nat) (xs : List Int) (hs : a.eval s = v) (hown : w.ownsRow base 3 1 v n (cZ xs))
    (b : Option Addr) (m c : Nat) (ys : List Int) (hx : a.eval x = .slice b m c) (hm : ys.length = m) (hz : RowZ w b ys)
    (h63 : n + m ≤ 100000) (hbase : base ≤ w.heap.size)
    (h : ∀ ad' cap' w', w'.ownsRow base 3 1 (.slice ad' (n + m) cap') (n + m) (cZ (xs ++ ys)) → w.grownBy w' v.ownBlock → ((Value.slice ad' (n + m) cap').ownBlock = v.ownBlock ∨ (Value.slice ad' (n + m) cap').ownBlock = some w.heap.size) → K (a.put o.dst (.slice ad' (n + m) cap')) w') :
    if Region.wanted o (yielded ops a.tmps) = true then Oper.wp Try.prog o a w K Q else E := by
  have hw : Region.wanted o (yielded ops a.tmps) = true := by simp [Region.wanted, hgd]
  rw [if_pos hw]
  obtain ⟨ad', cap', w', hr, h2, h3, h5⟩ := run_append_z w o.type base v n xs hown b c m ys hm hz h63 hbase
  unfold Oper.wp execOp
  simp only [ho, resolve, invoke, builtin, Sem.run_bind, Sem.run_pure, Result.andThen_ok, List.map_toArray, List.map_cons, List.map_nil, hs, hx, hr]
  exact h ad' cap' w' h2 h3 h5

theorem lit0 (w : World) : (w.alloc (.cells #[] 3)).ownsRow w.heap.size 3 1 (.slice (some ⟨w.heap.size, 0, none⟩) 0 0) 0 (cZ []) := World.ownsRow_lit w #[] 0 (Nat.le_refl _) (by unfold maxLen; omega) rfl
theorem below_own {W a b : World} {n : Nat} {v : Value} {xs : List Value} (h : Below W.heap.size W a) (ho : a.ownsRow W.heap.size 3 1 v n xs) (hg : a.grownBy b v.ownBlock) : Below W.heap.size W b :=
  h.grown hg h.size (fun j hj => (ho.lt j hj).1)
theorem step_copy_z (w : World) {ops : Array Oper} {o : Oper} {a : Act} {K : Act → World → Prop} {Q : Exit → Act → World → Prop} {E : Prop} (hgd : o.guard = none) (s x : Operand)
    (ho : o.op = .call { callee := .builtin .append, args := #[s, x], argTypes := #[26, 26] })
    (base : Nat) (v : Value) (hs : a.eval s = v) (hown : w.ownsRow base 3 1 v 0 (cZ []))
    (b : Option Addr) (m c : Nat) (ys : List Int) (hx : a.eval x = .slice b m c) (hm : ys.length = m) (hz : RowZ w b ys)
    (h63 : m ≤ 100000) (hbase : base ≤ w.heap.size)
    (h : ∀ ad' cap' w', w'.ownsRow base 3 1 (.slice ad' m cap') m (cZ ys) → w.grownBy w' v.ownBlock → K (a.put o.dst (.slice ad' m cap')) w') :
    if Region.wanted o (yielded ops a.tmps) = true then Oper.wp Try.prog o a w K Q else E := by
  refine step_append_z w hgd s x ho base v 0 [] hs hown b m c ys hx hm hz (by omega) hbase ?_
  intro ad' cap' w' h2 h3 _
  simp only [Nat.zero_add, List.nil_append] at h2 ⊢
  exact h ad' cap' w' h2 h3
theorem take_z {w : World} {g off : Nat} {l : List Int} (h : RowZ w (some ⟨g, off, none⟩) l) (hn : 0 < l.length) (k : Nat) : RowZ w (some ⟨g, off, none⟩) (l.take k) := fun _ => by
  obtain ⟨g', o', e, h2, h3⟩ := h (List.length_pos_iff.1 hn)
  cases e
  refine ⟨g, off, rfl, h2, fun j hj => ?_⟩
  rw [List.length_take] at hj
  rw [h3 j (by omega)]
  congr 2
  unfold gz
  rw [List.getD_eq_getElem?_getD, List.getD_eq_getElem?_getD, List.getElem?_take, if_pos (by omega)]
theorem drop_z {w : World} {g off : Nat} {l : List Int} (h : RowZ w (some ⟨g, off, none⟩) l) (hn : 0 < l.length) (k : Nat) : RowZ w (some ⟨g, off + k, none⟩) (l.drop k) := fun _ => by
  obtain ⟨g', o', e, h2, h3⟩ := h (List.length_pos_iff.1 hn)
  cases e
  refine ⟨g, off + k, rfl, h2, fun j hj => ?_⟩
  rw [List.length_drop] at hj
  rw [Nat.add_assoc, h3 (k + j) (by omega)]
  congr 2
  unfold gz
  rw [List.getD_eq_getElem?_getD, List.getD_eq_getElem?_getD, List.getElem?_drop]

theorem one_z {W : World} {g : Nat} {t : Int} (hg : g < W.heap.size) (h : W.cell? ⟨g, 0, none⟩ = some (.int .i64 t)) : RowZ W (some ⟨g, 0, none⟩) [t] := fun _ => ⟨g, 0, rfl, hg, fun k hk => by
  obtain rfl : k = 0 := by simp at hk; omega
  exact h⟩


theorem step_append_b (w : World) {ops : Array Oper} {o : Oper} {a : Act} {K : Act → World → Prop} {E : Prop} {Q' : Exit → Act → World → Prop} (hgd : o.guard = none) (s x : Operand)
    (ho : o.op = .call { callee := .builtin .append, args := #[s, x], argTypes := #[27, 27] })
    (base : Nat) (v : Value) (n : Nat) (xs : List Bool) (hs : a.eval s = v) (hown : w.ownsRow base 4 1 v n (cB xs))
    (g c : Nat) (y : Bool) (hx : a.eval x = .slice (some ⟨g, 0, none⟩) 1 c) (hz : w.cell? ⟨g, 0, none⟩ = some (.bool y))
    (h63 : n + 1 ≤ 100000) (hbase : base ≤ w.heap.size)
    (h : ∀ ad' cap' w', w'.ownsRow base 4 1 (.slice ad' (n + 1) cap') (n + 1) (cB (xs ++ [y])) → w.grownBy w' v.ownBlock → ((Value.slice ad' (n + 1) cap').ownBlock = v.ownBlock ∨ (Value.slice ad' (n + 1) cap').ownBlock = some w.heap.size) → K (a.put o.dst (.slice ad' (n + 1) cap')) w') :
    if Region.wanted o (yielded ops a.tmps) = true then Oper.wp Try.prog o a w K Q' else E := by
  have hw : Region.wanted o (yielded ops a.tmps) = true := by simp [Region.wanted, hgd]
  rw [if_pos hw]
  obtain ⟨i0, hi, hz0, hz1, hz2⟩ := info_parts info4
  obtain ⟨v', w', hr, h2, h3, _, h5⟩ := run_append_own_at (P := Try.prog) w base 27 o.type 4 i0 (.bool false) 1 1 Try.underlying27 hi hz0 hz1 hz2 rfl (by omega) v n (cB xs) hown ⟨g, 0, none⟩ 1 c [.bool y] rfl (newsI hz) (onesB y) (by unfold maxLen; omega) (by omega) hbase
  obtain ⟨ad', cap', rfl⟩ := owns_slice h2
  unfold Oper.wp execOp
  simp only [ho, resolve, invoke, builtin, Sem.run_bind, Sem.run_pure, Result.andThen_ok, List.map_toArray, List.map_cons, List.map_nil, hs, hx, hr]
  refine h ad' cap' w' ?_ h3 h5
  rw [cB_app]
  exact h2

end Go.Proofs.Ytinfmchbcipbjaa
