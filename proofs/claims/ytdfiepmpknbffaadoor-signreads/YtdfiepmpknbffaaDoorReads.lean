/-
  SignReads, the law's walk: the label of any text, or that there is none.
-/
import Derived.Test.YtdfiepmpknbffaaDoorRefLoop
namespace Go.Proofs.YtdfiepmpknbffaaDoor
open Go.RowKit

theorem refRead_any (s : ByteArray) (hs : s.size ≤ 9223372036854775807) (w : World) :
    Calls Tryd.prog 10 #[.string s] w fun e w' => e = .returned (.tuple #[.agg #[.int .i64 (labL (refRead s)), .int .i64 (labC (refRead s))], .int .i64 (labE (refRead s))]) ∧ Below w.heap.size w w' := by
  cases h : refOK s with
  | true => exact refRead_good s h w
  | false => rw [refRead_not s h]; exact refRead_bad s hs h w

set_option maxHeartbeats 1000000 in
theorem reads_walk (s : ByteArray) (hs : s.size ≤ 9223372036854775807) (w : World) :
    Calls Tryd.prog 3 #[.string s] w fun e w' => e = .returned (.bool true) ∧ Below w.heap.size w w' := by
  have hR := fun w => read_any s w
  have hQ := fun w => refRead_any s hs w
  generalize labL (refRead s) = L at hR hQ
  generalize labC (refRead s) = C at hR hQ
  generalize labE (refRead s) = E at hR hQ
  go_enter Tryd.func3, Tryd.ntmps3
  go_wp2_with fail
  refine (hR _).mono ?_
  rintro e w1 ⟨rfl, hB⟩
  go_wp2_with fail
  refine (hQ _).mono ?_
  rintro e w2 ⟨rfl, hb⟩
  have hz : w1.heap.size < w2.heap.size := by have := hb.size; simp at this; omega
  have t0 : w2.cell? ⟨w1.heap.size, 0, none⟩ = some (.int .i64 L) := by rw [(bcell hb).1 _ _ (by simp)]; simp [go_sem]
  have t1 : w2.cell? ⟨w1.heap.size, 1, none⟩ = some (.int .i64 C) := by rw [(bcell hb).1 _ _ (by simp)]; simp [go_sem]
  replace hB := below_next hB ((below1 _ _).trans (hb.mono (by simp)))
  clear hb
  have q0 : ∀ o, (w2.alloc o).cell? ⟨w1.heap.size, 0, none⟩ = some (.int .i64 L) := fun o => kept_old (below1 w2 o) hz 0 t0
  have q1 : ∀ o, (w2.alloc o).cell? ⟨w1.heap.size, 1, none⟩ = some (.int .i64 C) := fun o => kept_old (below1 w2 o) hz 1 t1
  go_wp2_with fail
  refine (awake_any _).mono ?_
  rintro e w3 ⟨rfl, hb⟩
  have u0 : w3.cell? ⟨w1.heap.size, 0, none⟩ = some (.int .i64 L) := by rw [(bcell hb).1 _ _ (by simp; omega)]; exact q0 _
  have u1 : w3.cell? ⟨w1.heap.size, 1, none⟩ = some (.int .i64 C) := by rw [(bcell hb).1 _ _ (by simp; omega)]; exact q1 _
  have u2 : w3.cell? ⟨w2.heap.size, 0, none⟩ = some (.int .i64 L) := by rw [(bcell hb).1 _ _ (by simp)]; simp [go_sem]
  have u3 : w3.cell? ⟨w2.heap.size, 1, none⟩ = some (.int .i64 C) := by rw [(bcell hb).1 _ _ (by simp)]; simp [go_sem]
  replace hB := below_next hB ((below1 _ _).trans (hb.mono (by simp)))
  clear hb t0 t1 q0 q1
  go_wp2
  go_ret
  exact ⟨rfl, hB⟩

end Go.Proofs.YtdfiepmpknbffaaDoor
