/-
  What sign.Read comes to: the label of a text that is one's, and none of any other.
-/
import Derived.Test.YtmhjoomkeidcaaaDoorL2Guess
namespace Go.Proofs.YtmhjoomkeidcaaaDoor.L2
open Go.RowKit

theorem below_heap {B : Nat} {a b : World} (h : Below B a b) {i : Nat} (hi : i < B) : b.heap[i]? = a.heap[i]? := h.block i hi

theorem list_ne {a b : ByteArray} (h : a ≠ b) : (a.toList == b.toList) = false := by
  rw [beq_eq_false_iff_ne]
  intro e
  rw [ByteArray.toList_eq, ByteArray.toList_eq] at e
  exact h (ByteArray.ext (Array.toList_inj.mp e))

/-- A label's two cells, and what they hold when another label is laid there. -/
theorem two_cells {W : World} {b : Nat} {x y : Value} {T : TypeId} (h : W.heap[b]? = some (.cells #[x, y] T (0, 0))) :
    W.cell? ⟨b, 0, none⟩ = some x ∧ W.cell? ⟨b, 1, none⟩ = some y ∧ W.frozen? ⟨b, 0, none⟩ = false ∧ W.frozen? ⟨b, 1, none⟩ = false :=
  ⟨Lib.cell_of_heap h 0, Lib.cell_of_heap h 1, Lib.frozen_of_heap h 0, Lib.frozen_of_heap h 1⟩
theorem two_set {W : World} {b : Nat} {x y : Value} {T : TypeId} (h : W.heap[b]? = some (.cells #[x, y] T (0, 0))) (u v : Value) :
    (W.setCell ⟨b, 0, none⟩ u).cell? ⟨b, 0, none⟩ = some u ∧ ((W.setCell ⟨b, 0, none⟩ u).setCell ⟨b, 1, none⟩ v).cell? ⟨b, 1, none⟩ = some v :=
  ⟨Lib.cell_of_heap (Lib.heap_setCell_same (i := 0) h u) 0, Lib.cell_of_heap (Lib.heap_setCell_same (i := 1) (Lib.heap_setCell_same (i := 0) h u) v) 1⟩

set_option maxHeartbeats 1000000 in
theorem read_bad (s : ByteArray) (w : World) (L C : Int) (hL : guessL s = L) (hC : guessC s = C) (hg : goodB L C = false) :
    Calls Tryd.prog 78 #[.string s] w fun e w' => e = .returned (.tuple #[.agg #[.int .i64 0, .int .i64 0], .int .i64 3]) ∧ Below w.heap.size w w' := by
  go_enter Tryd.func78, Tryd.ntmps78
  go_wp2_with fail
  refine (guess_any _ _).mono ?_
  rintro e w1 ⟨rfl, hB⟩
  rw [hL, hC]
  go_wp2_with fail
  refine (print_no _ _ hg _).mono ?_
  rintro e w2 ⟨rfl, hb⟩
  have hz : w.heap.size < w1.heap.size := by have := hB.size; simp at this; omega
  have hd : w2.heap[w.heap.size]? = some (.cells #[.int .i64 0, .int .i64 0] 35 (0, 0)) :=
    (below_heap hb (by simp; omega)).trans ((Lib.alloc_old _ _ _ hz).trans ((below_heap hB (by simp)).trans (alloc_at _ _)))
  obtain ⟨c0, c1, f0, f1⟩ := two_cells hd
  obtain ⟨q0, q1⟩ := two_set hd (.int .i64 0) (.int .i64 0)
  have hb2 : Below w.heap.size w w2 := (below1 _ _).trans ((hB.mono (by simp)).trans ((below1 _ _).trans (hb.mono (by simp)) |>.mono (by omega)))
  clear hd hb hB
  go_wp2
  exact bodyPost_ret (v := .tuple #[.agg #[.int .i64 0, .int .i64 0], .int .i64 3]) (by simp [results, Tryd.results78, go_sem, q0, q1]) rfl ⟨rfl, (hb2.setCell (by simp) _).setCell (by simp) _⟩

set_option maxHeartbeats 1000000 in
theorem read_other (s : ByteArray) (w : World) (L C : Nat) (hL : guessL s = L) (hC : guessC s = C) (h1 : L ≤ 7) (h2 : C < 65536) (hne : textB L C ≠ s) :
    Calls Tryd.prog 78 #[.string s] w fun e w' => e = .returned (.tuple #[.agg #[.int .i64 0, .int .i64 0], .int .i64 3]) ∧ Below w.heap.size w w' := by
  obtain ⟨t, ht⟩ : ∃ t, t = textB L C := ⟨_, rfl⟩
  have hP := fun w => print_yes L C h1 h2 w
  rw [← ht] at hP hne
  have hneb := list_ne hne
  clear ht hne
  go_enter Tryd.func78, Tryd.ntmps78
  go_wp2_with fail
  refine (guess_any _ _).mono ?_
  rintro e w1 ⟨rfl, hB⟩
  rw [hL, hC]
  go_wp2_with fail
  refine (hP _).mono ?_
  rintro e w2 ⟨rfl, hb⟩
  have hz : w.heap.size < w1.heap.size := by have := hB.size; simp at this; omega
  have hd : w2.heap[w.heap.size]? = some (.cells #[.int .i64 0, .int .i64 0] 35 (0, 0)) :=
    (below_heap hb (by simp; omega)).trans ((Lib.alloc_old _ _ _ hz).trans ((below_heap hB (by simp)).trans (alloc_at _ _)))
  obtain ⟨c0, c1, f0, f1⟩ := two_cells hd
  obtain ⟨q0, q1⟩ := two_set hd (.int .i64 0) (.int .i64 0)
  have hb2 : Below w.heap.size w w2 := (below1 _ _).trans ((hB.mono (by simp)).trans ((below1 _ _).trans (hb.mono (by simp)) |>.mono (by omega)))
  clear hd hb hB
  go_wp2
  exact bodyPost_ret (v := .tuple #[.agg #[.int .i64 0, .int .i64 0], .int .i64 3]) (by simp [results, Tryd.results78, go_sem, q0, q1]) rfl ⟨rfl, (hb2.setCell (by simp) _).setCell (by simp) _⟩

set_option maxHeartbeats 1000000 in
theorem read_same (w : World) (L C : Nat) (h1 : L ≤ 7) (h2 : C < 65536) :
    Calls Tryd.prog 78 #[.string (textB L C)] w fun e w' => e = .returned (.tuple #[.agg #[.int .i64 L, .int .i64 C], .int .i64 0]) ∧ Below w.heap.size w w' := by
  obtain ⟨hL, hC⟩ := guess_text L C h1 h2
  obtain ⟨t, ht⟩ : ∃ t, t = textB L C := ⟨_, rfl⟩
  have hP := fun w => print_yes L C h1 h2 w
  rw [← ht] at hP hL hC
  rw [← ht]
  clear ht
  go_enter Tryd.func78, Tryd.ntmps78
  go_wp2_with fail
  refine (guess_any _ _).mono ?_
  rintro e w1 ⟨rfl, hB⟩
  rw [hL, hC]
  go_wp2_with fail
  refine (hP _).mono ?_
  rintro e w2 ⟨rfl, hb⟩
  have hz : w.heap.size < w1.heap.size := by have := hB.size; simp at this; omega
  have hd : w2.heap[w.heap.size]? = some (.cells #[.int .i64 0, .int .i64 0] 35 (0, 0)) :=
    (below_heap hb (by simp; omega)).trans ((Lib.alloc_old _ _ _ hz).trans ((below_heap hB (by simp)).trans (alloc_at _ _)))
  have he : w2.heap[w1.heap.size]? = some (.cells #[.int .i64 L, .int .i64 C] 35 (0, 0)) :=
    (below_heap hb (by simp)).trans (alloc_at _ _)
  obtain ⟨c0, c1, f0, f1⟩ := two_cells hd
  obtain ⟨c2, c3, f2, f3⟩ := two_cells he
  obtain ⟨q0, q1⟩ := two_set hd (.int .i64 L) (.int .i64 C)
  have hb2 : Below w.heap.size w w2 := (below1 _ _).trans ((hB.mono (by simp)).trans ((below1 _ _).trans (hb.mono (by simp)) |>.mono (by omega)))
  clear hd hb hB he
  go_wp2
  exact bodyPost_ret (v := .tuple #[.agg #[.int .i64 L, .int .i64 C], .int .i64 0]) (by simp [results, Tryd.results78, go_sem, q0, q1]) rfl ⟨rfl, (hb2.setCell (by simp) _).setCell (by simp) _⟩

/-- A text's label as Go has it, and whether there is one. -/
def labL : Option (Nat × Nat) → Int
  | some (l, _) => l
  | none => 0
def labC : Option (Nat × Nat) → Int
  | some (_, c) => c
  | none => 0
def labE : Option (Nat × Nat) → Int
  | some _ => 0
  | none => 3

theorem read_any (s : ByteArray) (w : World) :
    Calls Tryd.prog 78 #[.string s] w fun e w' => e = .returned (.tuple #[.agg #[.int .i64 (labL (refRead s)), .int .i64 (labC (refRead s))], .int .i64 (labE (refRead s))]) ∧ Below w.heap.size w w' := by
  rw [← signRead_eq]
  cases h : signRead s with
  | some p =>
    obtain ⟨l, c⟩ := p
    obtain ⟨h1, h2, rfl⟩ := signRead_text s l c h
    exact read_same w l c h1 h2
  | none =>
    have hc := guessC_lt s
    by_cases hg : 0 ≤ guessL s ∧ guessL s ≤ 7
    · refine read_other s w (guessL s).toNat (guessC s) (by omega) rfl (by omega) hc ?_
      intro he
      unfold signRead at h
      rw [if_pos ⟨hg.1, hg.2, he⟩] at h
      cases h
    · exact read_bad s w _ _ rfl rfl (decide_eq_false (by omega))

end Go.Proofs.YtmhjoomkeidcaaaDoor.L2
