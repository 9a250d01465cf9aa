/-
  Lists of words as they lie in memory.
-/
import Derived.Test.YtmhjoomkeidcaaaDoorL3Wrong
import Derived.Deep.AppendLies
namespace Go.Proofs.YtmhjoomkeidcaaaDoor.L3
open Go.RowKit

theorem info70 : (Tryd.prog.info? 70).map (fun i => (i.zero, i.size, i.bytes)) = some (some (.agg #[.string ⟨#[]⟩, .int .i64 0, .int .i64 0]), 3, 32) := by kernel_rfl

/-- A list of words that a call made for itself. -/
def Own (w : World) (base : Nat) (v : Value) (ws : List Wd) : Prop := w.ownsRow base 70 3 v ws.length (cellsW ws)

theorem owns_below {w w' : World} {base : Nat} {e : TypeId} {size : Nat} {v : Value} {n : Nat} {xs : List Value} (h : w.ownsRow base e size v n xs) (k : Below w.heap.size w w') : w'.ownsRow base e size v n xs := by
  obtain ⟨h1, h2⟩ := h
  refine ⟨h1, ?_⟩
  rcases h2 with h2 | ⟨g, cap, cur, hv, hg, hh, r⟩
  · exact Or.inl h2
  · refine Or.inr ⟨g, cap, cur, hv, hg, ?_, r⟩
    have hlt : g < w.heap.size := (Array.getElem?_eq_some_iff.1 hh).1
    rw [k.block g hlt]; exact hh
theorem Own.below {w w' : World} {base : Nat} {v : Value} {ws : List Wd} (h : Own w base v ws) (k : Below w.heap.size w w') : Own w' base v ws := owns_below h k
theorem Own.mono {w : World} {base base' : Nat} {v : Value} {ws : List Wd} (h : Own w base v ws) (hb : base' ≤ base) : Own w base' v ws := by
  obtain ⟨h1, h2⟩ := h
  refine ⟨h1, ?_⟩
  rcases h2 with h2 | ⟨g, cap, cur, hv, hg, r⟩
  · exact Or.inl h2
  · exact Or.inr ⟨g, cap, cur, hv, Nat.le_trans hb hg, r⟩
theorem Own.nil (w : World) (base : Nat) : Own w base (.slice none 0 0) [] := World.ownsRow_nil w base 70 3
theorem Own.alloc {w : World} {base : Nat} {v : Value} {ws : List Wd} (h : Own w base v ws) (o : Obj) : Own (w.alloc o) base v ws := World.ownsRow.alloc h o
theorem Own.drew {w : World} {base : Nat} {v : Value} {ws : List Wd} (h : Own w base v ws) : Own w.drew base v ws := h

/-- What a list's value looks like. -/
theorem Own.form {w : World} {base : Nat} {v : Value} {ws : List Wd} (h : Own w base v ws) : ∃ ao cap, v = .slice ao ws.length cap ∧ ws.length ≤ cap := by
  rcases h.2 with ⟨h1, h2⟩ | ⟨g, cap, cur, hv, _, _, hc, _⟩
  · exact ⟨none, 0, by rw [h1, h2], by omega⟩
  · exact ⟨_, _, hv, hc⟩

theorem owns_set {w : World} {base : Nat} {e : TypeId} {size n g : Nat} {v : Value} {xs : List Value} (h : w.ownsRow base e size v n xs) (hg : v.ownBlock = some g) (j : Nat) (u : Value) :
    (w.setCell ⟨g, j, none⟩ u).ownsRow base e size v n (xs.set j u) := by
  obtain ⟨h1, h2⟩ := h
  refine ⟨by rw [List.length_set]; exact h1, ?_⟩
  rcases h2 with ⟨rfl, _⟩ | ⟨g', cap, cur, rfl, hb, hh, hc, hm, hs, ht⟩
  · simp [Value.ownBlock] at hg
  · simp [Value.ownBlock] at hg
    subst hg
    refine Or.inr ⟨g', cap, cur.setIfInBounds j u, rfl, hb, Lib.heap_setCell_same hh u, hc, hm, by rw [Array.size_setIfInBounds]; exact hs, ?_⟩
    rw [Array.toList_setIfInBounds, List.take_set, ht]

/-- A list's cells. -/
theorem owns_cell {w : World} {base : Nat} {e : TypeId} {size n g cap : Nat} {xs : List Value} (h : w.ownsRow base e size (.slice (some ⟨g, 0, none⟩) n cap) n xs) :
    (∀ j u, xs[j]? = some u → w.cell? ⟨g, j, none⟩ = some u) ∧ (∀ j, w.frozen? ⟨g, j, none⟩ = false) ∧ g < w.heap.size ∧ base ≤ g := by
  refine ⟨fun j u hu => ?_, fun j => ?_, (h.lt g rfl).2, (h.lt g rfl).1⟩
  · have := h.cells (g := g) rfl j u hu
    have hadd : (⟨g, 0, none⟩ : Addr).add j = ⟨g, j, none⟩ := by unfold Addr.add; split <;> simp_all
    rwa [hadd] at this
  · rcases h.2 with ⟨e, _⟩ | ⟨g', cap', cur, e, _, hh, _⟩
    · cases e
    · injection e with e1 e2 e3
      injection e1 with e1
      injection e1 with e1
      subst e1
      exact Lib.frozen_of_heap hh j

theorem cellsW_last (ws : List Wd) (x : Wd) (t : List UInt8) : (cellsW (ws ++ [x])).set (ws.length * 3) (.string ⟨t.toArray⟩) = cellsW (ws ++ [⟨t, x.line, x.col⟩]) := by
  rw [cellsW_append, cellsW_append, List.set_append_right _ _ (by rw [cellsW_length]; exact Nat.le_refl _), cellsW_length, Nat.sub_self]
  rfl
theorem cellsW_one (x : Wd) : cellsW [x] = [.string ⟨x.text.toArray⟩, .int .i64 x.line, .int .i64 x.col] := rfl

end Go.Proofs.YtmhjoomkeidcaaaDoor.L3
