/-
  How the document's list of tasks lies in memory; what a call may turn of it; and 'append' of tasks.
-/
import Derived.Test.YtggfndokmdpaeaaRMath
import Derived.Test.YtggfndokmdpaeaaXs
namespace Go.Proofs.Ytggfndokmdpaeaa
open Go.RowKit

theorem info61 : (Try.prog.info? 61).map (fun i => (i.zero, i.size, i.bytes)) = some (some (.agg #[.int .i64 0, .bool false, .bool false]), 3, 16) := by kernel_rfl
def cO (l : List Wn) : List Value := l.flatMap fun x => [.int .i64 x.t, .bool x.w, .bool x.h]
theorem cO_app (a b : List Wn) : cO (a ++ b) = cO a ++ cO b := by simp [cO]
theorem cO_len (l : List Wn) : (cO l).length = l.length * 3 := by
  induction l with
  | nil => rfl
  | cons x l ih => simp only [cO, List.flatMap_cons, List.length_append, List.length_cons, List.length_nil] at ih ⊢; omega
theorem cO_at : ∀ (l : List Wn) (i : Nat), i < l.length → (cO l)[i * 3]? = some (.int .i64 (wn l i).t) ∧ (cO l)[i * 3 + 1]? = some (.bool (wn l i).w) ∧ (cO l)[i * 3 + 2]? = some (.bool (wn l i).h)
  | [], i, h => by simp at h
  | x :: l, 0, _ => by simp [cO, wn]
  | x :: l, i + 1, h => by
    have := cO_at l i (by simpa using h)
    rw [show (i + 1) * 3 = i * 3 + 1 + 1 + 1 by omega]
    simpa [cO, wn, List.getD] using this
theorem cO_ones (l : List Wn) : ∀ v ∈ cO l, v.oneCell' = true := by
  intro v hv
  unfold cO at hv
  obtain ⟨x, _, hx⟩ := List.mem_flatMap.1 hv
  simp at hx
  rcases hx with rfl | rfl | rfl <;> rfl

/-- Tasks that lie somewhere in memory. -/
def RowO (w : World) (a : Option Addr) (l : List Wn) : Prop := l ≠ [] → ∃ g off, a = some ⟨g, off, none⟩ ∧ g < w.heap.size ∧ ∀ j q, (cO l)[j]? = some q → w.cell? ⟨g, off + j, none⟩ = some q
theorem RowO.below {w w' : World} {a : Option Addr} {l : List Wn} (h : RowO w a l) (k : Below w.heap.size w w') : RowO w' a l := fun hn => by
  obtain ⟨g, off, h1, h2, h3⟩ := h hn
  exact ⟨g, off, h1, Nat.lt_of_lt_of_le h2 k.size, fun j q hq => (k.cell (p := ⟨g, _, none⟩) h2).trans (h3 j q hq)⟩
theorem row_openO {w : World} {base : Nat} {v : Value} {l : List Wn} (h : w.ownsRow base 61 3 v l.length (cO l)) (h0 : 0 < l.length) :
    ∃ g c, v = .slice (some ⟨g, 0, none⟩) l.length c ∧ base ≤ g ∧ g < w.heap.size ∧ (∀ k, k < l.length → w.cell? ⟨g, k * 3, none⟩ = some (.int .i64 (wn l k).t) ∧ w.cell? ⟨g, k * 3 + 1, none⟩ = some (.bool (wn l k).w) ∧ w.cell? ⟨g, k * 3 + 2, none⟩ = some (.bool (wn l k).h)) ∧ l.length ≤ c ∧ c ≤ maxLen := by
  have h' := h
  rcases h.2 with ⟨_, h1⟩ | ⟨g, c, cur, rfl, hb, hh, hc, hm, _⟩
  · omega
  refine ⟨g, c, rfl, hb, (Array.getElem?_eq_some_iff.1 hh).1, fun k hk => ?_, hc, hm⟩
  obtain ⟨a1, a2, a3⟩ := cO_at l k hk
  exact ⟨(h'.cellAt _ (by omega)).trans a1, (h'.cellAt _ (by omega)).trans a2, (h'.cellAt _ (by omega)).trans a3⟩
theorem owns_rowO {w : World} {base : Nat} {a : Option Addr} {c : Nat} {l : List Wn} (h : w.ownsRow base 61 3 (.slice a l.length c) l.length (cO l)) : RowO w a l := fun hn => by
  have h' := h
  rcases h.2 with ⟨_, h1⟩ | ⟨g, c', cur, hv, hb, hh, hc, hm, _⟩
  · exact absurd (List.length_eq_zero_iff.1 h1) hn
  · injection hv with e1
    subst e1
    refine ⟨g, 0, rfl, (Array.getElem?_eq_some_iff.1 hh).1, fun j q hq => ?_⟩
    have hj : j < l.length * 3 := by rw [← cO_len]; exact (List.getElem?_eq_some_iff.1 hq).1
    rw [Nat.zero_add]
    exact (h'.cellAt j (by omega)).trans hq
theorem take_o {w : World} {g off : Nat} {l : List Wn} (h : RowO w (some ⟨g, off, none⟩) l) (hn : 0 < l.length) (k : Nat) : RowO w (some ⟨g, off, none⟩) (l.take k) := fun _ => by
  obtain ⟨g', o', e, h2, h3⟩ := h (List.length_pos_iff.1 hn)
  cases e
  refine ⟨g, off, rfl, h2, fun j q hq => h3 j q ?_⟩
  have hj := (List.getElem?_eq_some_iff.1 hq).1
  have e2 : cO l = cO (l.take k) ++ cO (l.drop k) := by rw [← cO_app, List.take_append_drop]
  rw [e2, List.getElem?_append_left hj]
  exact hq
theorem drop_o {w : World} {g off : Nat} {l : List Wn} (h : RowO w (some ⟨g, off, none⟩) l) (k : Nat) (hk : k ≤ l.length) (hn : 0 < l.length) : RowO w (some ⟨g, off + k * 3, none⟩) (l.drop k) := fun _ => by
  obtain ⟨g', o', e, h2, h3⟩ := h (List.length_pos_iff.1 hn)
  cases e
  refine ⟨g, off + k * 3, rfl, h2, fun j q hq => ?_⟩
  rw [Nat.add_assoc]
  refine h3 _ q ?_
  have e2 : cO l = cO (l.take k) ++ cO (l.drop k) := by rw [← cO_app, List.take_append_drop]
  have e3 : (cO (l.take k)).length = k * 3 := by rw [cO_len, List.length_take, Nat.min_eq_left hk]
  rw [e2, List.getElem?_append_right (by omega), e3, Nat.add_sub_cancel_left]
  exact hq
theorem one_o {w : World} {g : Nat} {t : Int} {b c : Bool} (hg : g < w.heap.size) (h0 : w.cell? ⟨g, 0, none⟩ = some (.int .i64 t)) (h1 : w.cell? ⟨g, 1, none⟩ = some (.bool b)) (h2 : w.cell? ⟨g, 2, none⟩ = some (.bool c)) : RowO w (some ⟨g, 0, none⟩) [⟨t, b, c⟩] := fun _ => ⟨g, 0, rfl, hg, fun j q hq => by
  rw [Nat.zero_add]
  match j, hq with
  | 0, hq => simp [cO] at hq; subst hq; exact h0
  | 1, hq => simp [cO] at hq; subst hq; exact h1
  | 2, hq => simp [cO] at hq; subst hq; exact h2
  | n + 3, hq => simp [cO] at hq⟩

/-- The document's. -/
structure AtR (w : World) (R base : Nat) (u : Value) (l : List Wn) : Prop where
  box : w.heap[R]? = some (.cells #[u] 28 (0, 0))
  row : w.ownsRow base 61 3 u l.length (cO l)
def MineR (R : Nat) (u : Value) (k : Nat) : Prop := k = R ∨ u.ownBlock = some k
def NowR (R base : Nat) (u : Value) (l : List Wn) (w w' : World) : Prop := ∃ u', AtR w' R base u' l ∧ Mov (MineR R u) w w' ∧ ∀ k, u'.ownBlock = some k → w.heap.size ≤ k ∨ u.ownBlock = some k

theorem rowO_box {w : World} {base n S : Nat} {v : Value} {xs : List Value} {cs : Array Value} {t : TypeId} {fr : Nat × Nat} (h : w.ownsRow base 61 3 v n xs) (hb : w.heap[S]? = some (.cells cs t fr)) (ht : t ≠ 61) : v.ownBlock ≠ some S := by
  intro e
  rcases h.2 with ⟨rfl, _⟩ | ⟨g, cap, cur, rfl, _, hh, _⟩
  · simp [Value.ownBlock] at e
  · simp [Value.ownBlock] at e
    subst e
    have := hb.symm.trans hh
    simp at this
    exact ht this.2.1
variable {w w' : World} {R base : Nat} {u : Value} {l : List Wn}
theorem AtR.lt (h : AtR w R base u l) : R < w.heap.size := (Array.getElem?_eq_some_iff.1 h.box).1
theorem AtR.far (h : AtR w R base u l) : u.ownBlock ≠ some R := rowO_box h.row h.box (by decide)
theorem AtR.keep (h : AtR w R base u l) (hk : ∀ k, MineR R u k → w'.heap[k]? = w.heap[k]?) : AtR w' R base u l := ⟨(hk R (Or.inl rfl)).trans h.box, owns_far h.row fun k e => hk k (Or.inr e)⟩
theorem AtR.mine_lt (h : AtR w R base u l) {k : Nat} (hk : MineR R u k) : k < w.heap.size := by
  rcases hk with e | e
  · rw [e]; exact h.lt
  · exact (h.row.lt k e).2
theorem AtR.mine_ge (h : AtR w R base u l) (hR : base ≤ R) {k : Nat} (hk : MineR R u k) : base ≤ k := by
  rcases hk with e | e
  · rw [e]; exact hR
  · exact (h.row.lt k e).1
theorem AtR.below (h : AtR w R base u l) (k : Below w.heap.size w w') : AtR w' R base u l := h.keep fun j hj => k.block j (h.mine_lt hj)
theorem AtR.cells (h : AtR w R base u l) : w.cell? ⟨R, 0, none⟩ = some u ∧ (∀ j, w.frozen? ⟨R, j, none⟩ = false) :=
  ⟨Lib.cell_of_heap h.box 0, fun j => Lib.frozen_of_heap h.box j⟩
theorem NowR.same (h : AtR w R base u l) (k : Below w.heap.size w w') : NowR R base u l w w' := ⟨u, h.below k, Mov.of_below k, fun _ hk => Or.inr hk⟩
theorem NowR.low {n : Nat} {l2 : List Wn} (h : NowR R base u l2 w w') (ha : AtR w R base u l) (hR : base ≤ R) (hn : n ≤ base) (hb : n ≤ w.heap.size) : Below n w w' := by
  obtain ⟨_, _, h2, _⟩ := h
  exact h2.below hb fun k hk => Nat.le_trans hn (ha.mine_ge hR hk)
theorem NowR.next {w1 w2 : World} {u1 : Value} {l2 : List Wn} (h2 : Mov (MineR R u) w w1) (h3 : ∀ k, u1.ownBlock = some k → w.heap.size ≤ k ∨ u.ownBlock = some k) (k : NowR R base u1 l2 w1 w2) : NowR R base u l2 w w2 := by
  obtain ⟨u2, k1, k2, k3⟩ := k
  have hz := h2.size
  refine ⟨u2, k1, h2.thn k2 ?_, fun j hj => ?_⟩
  · rintro i (e | e)
    · exact Or.inr (Or.inl e)
    · rcases h3 i e with q | q
      · exact Or.inl q
      · exact Or.inr (Or.inr q)
  · rcases k3 j hj with q | q
    · exact Or.inl (by omega)
    · exact h3 j q
theorem AtR.setRow {u' : Value} {l2 : List Wn} (h : AtR w R base u l) (ho : w.ownsRow base 61 3 u' l2.length (cO l2)) : AtR (w.setCell ⟨R, 0, none⟩ u') R base u' l2 :=
  ⟨Lib.heap_setCell_same h.box u', owns_far ho fun k hk => Below.heap_setCell _ _ _ _ (fun e => rowO_box ho h.box (by decide) (by rw [hk]; exact congrArg some e))⟩
/-- A new row is stored into the box. -/
theorem fin_row {w w4 : World} {R base : Nat} {u u' : Value} {l l2 : List Wn} (h : AtR w R base u l) (hbs : base ≤ w.heap.size) (hb : Below w.heap.size w w4) (ho : w4.ownsRow w.heap.size 61 3 u' l2.length (cO l2)) : NowR R base u l2 w (w4.setCell ⟨R, 0, none⟩ u') :=
  ⟨u', (h.below hb).setRow (owns_base ho hbs), (Mov.of_below hb).set (p := ⟨R, 0, none⟩) (Or.inl rfl) _, fun k hk => Or.inl (ho.lt k hk).1⟩

/-- 'append' of tasks that lie somewhere onto a row that the call owns. -/
theorem run_noneO (a b : Option Addr) (n c k : Nat) (hnc : n ≤ c) (ty : TypeId) (w : World) : (Builtin.append_ #[26, 26] ty #[.slice a n c, .slice b 0 k]).run Try.prog w = .ok (.slice a n c) w := by
  have hu := Try.underlying26
  have hu3 := Try.underlying61
  cases a <;> cases b <;> simp [Builtin.append_, go_sem, hnc, Builtin.lenOf, Builtin.firstCells, loadCells, loadCellsFrom, storeCells]

theorem run_append_o (w : World) (ty : TypeId) (base : Nat) (v : Value) (n : Nat) (xs : List Wn) (hown : w.ownsRow base 61 3 v n (cO xs)) (a : Option Addr) (c m : Nat) (ys : List Wn) (hm : ys.length = m) (hz : RowO w a ys)
    (h63 : n + m ≤ 100000) (hbase : base ≤ w.heap.size) :
    ∃ ad' cap' w', (Builtin.append_ #[26, 26] ty #[v, .slice a m c]).run Try.prog w = .ok (.slice ad' (n + m) cap') w' ∧ w'.ownsRow base 61 3 (.slice ad' (n + m) cap') (n + m) (cO (xs ++ ys)) ∧ w.grownBy w' v.ownBlock ∧
      ((Value.slice ad' (n + m) cap').ownBlock = v.ownBlock ∨ (Value.slice ad' (n + m) cap').ownBlock = some w.heap.size) := by
  obtain ⟨i0, hi, hz0, hz1, hz2⟩ := info_parts info61
  subst hm
  by_cases hn : ys = []
  · subst hn
    obtain ⟨a0, c0, rfl⟩ := owns_slice hown
    have hcap : n ≤ c0 := by
      rcases hown.2 with ⟨e, e2⟩ | ⟨g, cap, cur, e, _, _, hc, _⟩
      · omega
      · injection e with _ _ e3; omega
    exact ⟨a0, c0, w, run_noneO a0 a n c0 c hcap ty w, by simpa using hown, ⟨rfl, rfl, rfl, Nat.le_refl _, fun _ _ _ => rfl⟩, Or.inl rfl⟩
  · obtain ⟨g, off, rfl, hg, hc⟩ := hz hn
    have hnews : ∀ j q, (cO ys)[j]? = some q → w.cell? ((⟨g, off, none⟩ : Addr).add j) = some q := fun j q hq => by
      rw [add_none]
      exact hc j q hq
    obtain ⟨v', w', hr, h2, h3, _, h5⟩ := run_append_own_at (P := Try.prog) w base 26 ty 61 i0 _ 3 16 Try.underlying26 hi hz0 hz1 hz2 rfl (by omega) v n (cO xs) hown ⟨g, off, none⟩ ys.length c (cO ys) (cO_len ys) hnews (cO_ones ys) (by unfold maxLen; omega) (by omega) hbase
    obtain ⟨ad', cap', rfl⟩ := owns_slice h2
    exact ⟨ad', cap', w', hr, by rw [cO_app]; exact h2, h3, h5⟩

theorem wpList_append_o (w : World) {ops : Array Oper} {rest : List Oper} {o : Oper} {a : Act} {Q : Exit → Act → World → Prop} (hgd : o.guard = none) (s x : Operand)
    (ho : o.op = .call { callee := .builtin .append, args := #[s, x], argTypes := #[26, 26] })
    (base : Nat) (v : Value) (n : Nat) (xs : List Wn) (hs : a.eval s = v) (hown : w.ownsRow base 61 3 v n (cO xs))
    (b : Option Addr) (m c : Nat) (ys : List Wn) (hx : a.eval x = .slice b m c) (hm : ys.length = m) (hz : RowO w b ys)
    (h63 : n + m ≤ 100000) (hbase : base ≤ w.heap.size)
    (h : ∀ ad' cap' w', w'.ownsRow base 61 3 (.slice ad' (n + m) cap') (n + m) (cO (xs ++ ys)) → w.grownBy w' v.ownBlock → ((Value.slice ad' (n + m) cap').ownBlock = v.ownBlock ∨ (Value.slice ad' (n + m) cap').ownBlock = some w.heap.size) → wpList Try.prog ops Q rest (a.put o.dst (.slice ad' (n + m) cap')) w') :
    wpList Try.prog ops Q (o :: rest) a w := by
  obtain ⟨ad', cap', w', hr, h2, h3, h5⟩ := run_append_o w o.type base v n xs hown b c m ys hm hz h63 hbase
  refine wpList_plain hgd fun K hK' => ?_
  unfold Oper.wp execOp
  simp only [ho, resolve, invoke, builtin, Sem.run_bind, Sem.run_pure, Result.andThen_ok, List.map_toArray, List.map_cons, List.map_nil, hs, hx, hr]
  exact hK' _ _ (h ad' cap' w' h2 h3 h5)

theorem step_append_o (w : World) {ops : Array Oper} {o : Oper} {a : Act} {K : Act → World → Prop} {Q : Exit → Act → World → Prop} {E : Prop} (hgd : o.guard = none) (s x : Operand)
    (ho : o.op = .call { callee := .builtin .append, args := #[s, x], argTypes := #[26, 26] })
    (base : Nat) (v : Value) (n : Nat) (xs : List Wn) (hs : a.eval s = v) (hown : w.ownsRow base 61 3 v n (cO xs))
    (b : Option Addr) (m c : Nat) (ys : List Wn) (hx : a.eval x = .slice b m c) (hm : ys.length = m) (hz : RowO w b ys)
    (h63 : n + m ≤ 100000) (hbase : base ≤ w.heap.size)
    (h : ∀ ad' cap' w', w'.ownsRow base 61 3 (.slice ad' (n + m) cap') (n + m) (cO (xs ++ ys)) → w.grownBy w' v.ownBlock → ((Value.slice ad' (n + m) cap').ownBlock = v.ownBlock ∨ (Value.slice ad' (n + m) cap').ownBlock = some w.heap.size) → K (a.put o.dst (.slice ad' (n + m) cap')) w') :
    if Region.wanted o (yielded ops a.tmps) = true then Oper.wp Try.prog o a w K Q else E := by
  have hw : Region.wanted o (yielded ops a.tmps) = true := by simp [Region.wanted, hgd]
  rw [if_pos hw]
  obtain ⟨ad', cap', w', hr, h2, h3, h5⟩ := run_append_o w o.type base v n xs hown b c m ys hm hz h63 hbase
  unfold Oper.wp execOp
  simp only [ho, resolve, invoke, builtin, Sem.run_bind, Sem.run_pure, Result.andThen_ok, List.map_toArray, List.map_cons, List.map_nil, hs, hx, hr]
  exact h ad' cap' w' h2 h3 h5
/-- .. onto one in which there is nothing. -/
theorem step_copy_o (w : World) {ops : Array Oper} {o : Oper} {a : Act} {K : Act → World → Prop} {Q : Exit → Act → World → Prop} {E : Prop} (hgd : o.guard = none) (s x : Operand)
    (ho : o.op = .call { callee := .builtin .append, args := #[s, x], argTypes := #[26, 26] })
    (base : Nat) (v : Value) (hs : a.eval s = v) (hown : w.ownsRow base 61 3 v 0 (cO []))
    (b : Option Addr) (m c : Nat) (ys : List Wn) (hx : a.eval x = .slice b m c) (hm : ys.length = m) (hz : RowO w b ys)
    (h63 : m ≤ 100000) (hbase : base ≤ w.heap.size)
    (h : ∀ ad' cap' w', w'.ownsRow base 61 3 (.slice ad' m cap') m (cO ys) → w.grownBy w' v.ownBlock → K (a.put o.dst (.slice ad' m cap')) w') :
    if Region.wanted o (yielded ops a.tmps) = true then Oper.wp Try.prog o a w K Q else E := by
  refine step_append_o w hgd s x ho base v 0 [] hs hown b m c ys hx hm hz (by omega) hbase ?_
  intro ad' cap' w' h2 h3 _
  simp only [Nat.zero_add, List.nil_append] at h2 ⊢
  exact h ad' cap' w' h2 h3

theorem lit0O (w : World) : (w.alloc (.cells #[] 61)).ownsRow w.heap.size 61 3 (.slice (some ⟨w.heap.size, 0, none⟩) 0 0) 0 (cO []) := World.ownsRow_lit w #[] 0 (Nat.le_refl _) (by unfold maxLen; omega) rfl
theorem below_ownO {W a b : World} {n : Nat} {v : Value} {xs : List Value} (h : Below W.heap.size W a) (ho : a.ownsRow W.heap.size 61 3 v n xs) (hg : a.grownBy b v.ownBlock) : Below W.heap.size W b :=
  h.grown hg h.size (fun j hj => (ho.lt j hj).1)

end Go.Proofs.Ytggfndokmdpaeaa
