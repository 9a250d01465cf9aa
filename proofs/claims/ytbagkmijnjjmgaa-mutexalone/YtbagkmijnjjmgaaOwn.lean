/-
  A row of the law's own that is cut at its beginning and appended to at its end; and the program's beside it.
-/
import Derived.Test.YtbagkmijnjjmgaaAwake
import Derived.ArgAppend
namespace Go.Proofs.Ytbagkmijnjjmgaa
open Go.RowKit

/-- A slice of the law's own, wherever in its array it begins. -/
structure OwnO (w : World) (base : Nat) (a : Option Addr) (c : Nat) (l : List Int) : Prop where
  le : l.length ≤ c
  mx : c ≤ maxLen
  here : 0 < c → ∃ g off cur, a = some ⟨g, off, none⟩ ∧ base ≤ g ∧ w.heap[g]? = some (.cells cur 3 (0, 0)) ∧ cur.size = off + c ∧ ∀ k, k < l.length → cur[off + k]? = some (.int .i64 (gz l k))
  non : a = none → c = 0
/-- Its block. -/
def Its (a : Option Addr) (c j : Nat) : Prop := 0 < c ∧ ∃ off, a = some ⟨j, off, none⟩
variable {w w' : World} {base c : Nat} {a : Option Addr} {l : List Int}
theorem OwnO.keep (h : OwnO w base a c l) (hk : ∀ j, Its a c j → w'.heap[j]? = w.heap[j]?) : OwnO w' base a c l := by
  refine ⟨h.le, h.mx, fun hc => ?_, h.non⟩
  obtain ⟨g, off, cur, h1, h2, h3, h4, h5⟩ := h.here hc
  exact ⟨g, off, cur, h1, h2, (hk g ⟨hc, off, h1⟩).trans h3, h4, h5⟩
theorem OwnO.its_lt (h : OwnO w base a c l) {j : Nat} (hj : Its a c j) : j < w.heap.size ∧ base ≤ j := by
  obtain ⟨hc, off, e⟩ := hj
  obtain ⟨g, off2, cur, h1, h2, h3, _⟩ := h.here hc
  rw [h1] at e
  cases e
  exact ⟨(Array.getElem?_eq_some_iff.1 h3).1, h2⟩
theorem OwnO.below (h : OwnO w base a c l) (k : Below w.heap.size w w') : OwnO w' base a c l := h.keep fun j hj => k.block j (h.its_lt hj).1
theorem OwnO.rowZ (h : OwnO w base a c l) : RowZ w a l := fun hn => by
  have hp := List.length_pos_iff.2 hn
  obtain ⟨g, off, cur, h1, h2, h3, h4, h5⟩ := h.here (by have := h.le; omega)
  exact ⟨g, off, h1, (Array.getElem?_eq_some_iff.1 h3).1, fun k hk => (Lib.cell_of_heap h3 _).trans (h5 k hk)⟩
theorem OwnO.lit (w : World) (base : Nat) : OwnO (w.alloc (.cells #[] 3)) base (some ⟨w.heap.size, 0, none⟩) 0 [] :=
  ⟨Nat.le_refl _, by unfold maxLen; omega, fun h => absurd h (by omega), fun h => by cases h⟩
theorem OwnO.tail1 (h : OwnO w base a 1 l) : OwnO w base a 0 l.tail :=
  ⟨by have := h.le; rw [List.length_tail]; omega, by unfold maxLen; omega, fun h => absurd h (by omega), fun _ => rfl⟩
theorem OwnO.tail {g off : Nat} (h : OwnO w base (some ⟨g, off, none⟩) c l) (hl : 1 ≤ l.length) : OwnO w base (some ⟨g, off + 1, none⟩) (c - 1) l.tail := by
  have hle := h.le
  refine ⟨by rw [List.length_tail]; omega, by have := h.mx; omega, fun hc => ?_, fun e => by cases e⟩
  obtain ⟨g2, off2, cur, h1, h2, h3, h4, h5⟩ := h.here (by omega)
  cases h1
  refine ⟨g, off + 1, cur, rfl, h2, h3, by omega, fun k hk => ?_⟩
  rw [List.length_tail] at hk
  rw [gz_tail, ← h5 (k + 1) (by omega), Nat.add_assoc, Nat.add_comm 1 k]
theorem OwnO.of_row {n cap : Nat} {b : Option Addr} (h : w.ownsRow base 3 1 (.slice b n cap) n (cZ l)) (hn : l.length = n) : OwnO w base b cap l := by
  have hc := row_cap h
  have h' := h
  refine ⟨by omega, hc.2, fun h0 => ?_, fun e => ?_⟩
  · rcases h.2 with ⟨e, _⟩ | ⟨g, cap2, cur, e, hb, hh, _, _, hs, ht⟩
    · injection e with e1 e2 e3; omega
    · injection e with e1 _ e3
      subst e3
      refine ⟨g, 0, cur, e1, hb, hh, by omega, fun k hk => ?_⟩
      have hk2 := h'
      rw [e1] at hk2
      have := (Lib.cell_of_heap hh k).symm.trans (hk2.cellAt k (by omega))
      rw [Nat.zero_add, this, cZ_get l hk]
  · subst e
    rcases h.2 with ⟨e, _⟩ | ⟨g, cap2, cur, e, _⟩
    · injection e
    · cases e

theorem gz_snoc (l : List Int) (t : Int) {k : Nat} (hk : k < (l ++ [t]).length) : gz (l ++ [t]) k = if k = l.length then t else gz l k := by
  unfold gz
  simp only [List.getD_eq_getElem?_getD]
  split
  · rename_i e; subst e; simp
  · rw [List.getElem?_append_left (by simp at hk; omega)]

theorem run_append_o (ty : TypeId) (h : OwnO w base a c l) (hl : l.length ≤ 1000) (hbase : base ≤ w.heap.size) (t : Int) (b : Nat) (hx : w.cell? ⟨b, 0, none⟩ = some (.int .i64 t)) :
    ∃ a' c' w', (Builtin.append_ #[26, 26] ty #[.slice a l.length c, .slice (some ⟨b, 0, none⟩) 1 1]).run Try.prog w = .ok (.slice a' (l.length + 1) c') w' ∧ OwnO w' base a' c' (l ++ [t]) ∧ Mov (Its a c) w w' ∧ ∀ j, Its a' c' j → w.heap.size ≤ j ∨ Its a c j := by
  obtain ⟨i0, hi, hz0, hz1, hz2⟩ := info_parts info3
  by_cases hr : l.length + 1 ≤ c
  · obtain ⟨g, off, cur, rfl, h2, h3, h4, h5⟩ := h.here (by omega)
    have hlt : off + l.length < cur.size := by omega
    have hc1 : ∀ j, j < [Value.int .i64 t].length → (w.cell? ⟨g, off + l.length * i0.size + j, none⟩).isSome = true := fun j hj => by
      obtain rfl : j = 0 := by simp at hj; omega
      rw [hz1, Nat.mul_one, Nat.add_zero, Lib.cell_of_heap h3, Array.getElem?_eq_getElem hlt]; rfl
    have hf1 : ∀ j, j < [Value.int .i64 t].length → w.frozen? ⟨g, off + l.length * i0.size + j, none⟩ = false := fun j _ => Lib.frozen_of_heap h3 _
    have hrun := run_append_room_cells (P := Try.prog) w 26 ty 3 i0 Try.underlying26 hi g off l.length c ⟨b, 0, none⟩ 1 1 [.int .i64 t] (by rw [hz1]; rfl) (newsI hx) (onesI t) hr hc1 hf1
    have e1 : w.setCells g (off + l.length * i0.size) [.int .i64 t] = w.setCell ⟨g, off + l.length, none⟩ (.int .i64 t) := by rw [hz1, Nat.mul_one]; rfl
    rw [e1] at hrun
    refine ⟨_, c, _, hrun, ⟨by simpa using hr, h.mx, fun hc => ⟨g, off, _, rfl, h2, Lib.heap_setCell_same h3 _, by simpa using h4, fun k hk => ?_⟩, fun e => by cases e⟩, (Mov.refl _ _).set (p := ⟨g, off + l.length, none⟩) ⟨by omega, off, rfl⟩ _, fun j hj => Or.inr hj⟩
    rw [gz_snoc l t hk, Array.getElem?_setIfInBounds]
    by_cases e : k = l.length
    · subst e
      rw [if_pos rfl, if_pos hlt, if_pos rfl]
    · rw [if_neg (by omega), if_neg e]
      exact h5 k (by simp at hk; omega)
  · have hle := h.le
    have hcl : c = l.length := by omega
    have done : ∀ v' w', w'.ownsRow w.heap.size 3 1 v' (l.length + 1) (cZ l ++ [.int .i64 t]) → w.grownBy w' none → ∃ a' c' w2, Result.ok v' w' = .ok (.slice a' (l.length + 1) c') w2 ∧ OwnO w2 base a' c' (l ++ [t]) ∧ Mov (Its a c) w w2 ∧ ∀ j, Its a' c' j → w.heap.size ≤ j ∨ Its a c j := fun v' w' ho hg => by
      rw [← cZ_snoc] at ho
      rcases ho.2 with ⟨_, e⟩ | ⟨g, cap, cur, rfl, hb, _⟩
      · omega
      · refine ⟨_, cap, w', rfl, OwnO.of_row (owns_base ho hbase) (by simp), ⟨hg.os, hg.tape, hg.output, hg.size, fun k hk _ => hg.block k hk (by simp)⟩, fun j hj => ?_⟩
        obtain ⟨_, off, e⟩ := hj
        cases e
        exact Or.inl hb
    cases a with
    | none =>
      have h0 := h.non rfl
      have hn : l = [] := List.length_eq_zero_iff.1 (by omega)
      subst h0
      subst hn
      obtain ⟨v', w', hrun, r1, r2, _⟩ := run_append_own (P := Try.prog) w w.heap.size 26 ty 3 i0 (.int .i64 0) 1 8 Try.underlying26 hi hz0 hz1 hz2 rfl (by decide) (.slice none 0 0) 0 [] (World.ownsRow_nil w _ 3 1) ⟨b, 0, none⟩ 1 1 [.int .i64 t] rfl (newsI hx) (onesI t) (by unfold maxLen; omega) (by omega) (Nat.le_refl _)
      rw [show (Value.slice none (List.length (α := Int) []) 0) = .slice none 0 0 from rfl, hrun]
      exact done v' w' r1 r2
    | some p =>
      have hold : ∀ j u, (cZ l)[j]? = some u → w.cell? (p.add j) = some u := fun j u hu => by
        have hj : j < l.length := by rw [← cZ_len]; exact (List.getElem?_eq_some_iff.1 hu).1
        obtain ⟨g, off, e, _, hz⟩ := h.rowZ (List.length_pos_iff.1 (by omega))
        cases e
        rw [add_none, hz j hj, ← hu, cZ_get l hj]
      obtain ⟨v', w', hrun, r1, r2⟩ := run_append_arg_grows (P := Try.prog) w 26 ty 3 i0 (.int .i64 0) 1 8 Try.underlying26 hi hz0 hz1 hz2 rfl (by decide) p l.length c (cZ l) (by rw [cZ_len, Nat.mul_one]) hold ⟨b, 0, none⟩ 1 1 [.int .i64 t] rfl (newsI hx) (by omega) (by unfold maxLen; omega) (by omega)
      rw [hrun]
      exact done v' w' r1 r2

theorem wpList_append_o {ops : Array Oper} {rest : List Oper} {o : Oper} {q : Act} {Q : Exit → Act → World → Prop} (hgd : o.guard = none) (s x : Operand)
    (ho : o.op = .call { callee := .builtin .append, args := #[s, x], argTypes := #[26, 26] })
    (n : Nat) (hn : l.length = n) (hs : q.eval s = .slice a n c) (t : Int) (b : Nat) (hx : q.eval x = .slice (some ⟨b, 0, none⟩) 1 1) (hcell : w.cell? ⟨b, 0, none⟩ = some (.int .i64 t))
    (h : OwnO w base a c l) (hl : n ≤ 1000) (hbase : base ≤ w.heap.size)
    (k : ∀ a' c' w', OwnO w' base a' c' (l ++ [t]) → Mov (Its a c) w w' → (∀ j, Its a' c' j → w.heap.size ≤ j ∨ Its a c j) → wpList Try.prog ops Q rest (q.put o.dst (.slice a' (n + 1) c')) w') :
    wpList Try.prog ops Q (o :: rest) q w := by
  subst hn
  obtain ⟨a', c', w', hr, h2, h3, h4⟩ := run_append_o o.type h hl hbase t b hcell
  refine wpList_plain hgd fun K hK' => ?_
  unfold Oper.wp execOp
  simp only [ho, resolve, invoke, builtin, Sem.run_bind, Sem.run_pure, Result.andThen_ok, List.map_toArray, List.map_cons, List.map_nil, hs, hx, hr]
  exact hK' _ _ (k a' c' w' h2 h3 h4)

end Go.Proofs.Ytbagkmijnjjmgaa
