/-
  SignBack, the law's walk: a label comes back of its text, and a text that is read is the label's own.
-/
import Derived.Test.YtdfiepmpknbffaaDoorUnlike
namespace Go.Proofs.YtdfiepmpknbffaaDoor
open Go.RowKit

theorem read_empty (w : World) : Calls Tryd.prog 9 #[.string ⟨#[]⟩] w fun e w' => e = .returned (.tuple #[.agg #[.int .i64 0, .int .i64 0], .int .i64 3]) ∧ Below w.heap.size w w' := by
  have := read_any ⟨#[]⟩ w
  rw [show refRead ⟨#[]⟩ = none by decide] at this
  exact this

set_option maxHeartbeats 2000000 in
theorem back_good_none (l c : Nat) (h1 : l ≤ 7) (h2 : c < 65536) (s : ByteArray) (hR : ∀ w, Calls Tryd.prog 9 #[.string s] w fun e w' => e = .returned (.tuple #[.agg #[.int .i64 0, .int .i64 0], .int .i64 3]) ∧ Below w.heap.size w w') (w : World) :
    Calls Tryd.prog 5 #[.agg #[.int .i64 l, .int .i64 c], .string s] w fun e w' => e = .returned (.bool true) ∧ Below w.heap.size w w' := by
  have hP := fun w => print_yes l c h1 h2 w
  have hQ := fun w => read_same w l c h1 h2
  have hg : goodB l c = true := decide_eq_true (by omega)
  generalize textB l c = t at hP hQ
  go_enter Tryd.func5, Tryd.ntmps5
  go_wp2_with fail
  refine (hP _).mono ?_
  rintro e w1 ⟨rfl, hB⟩
  go_wp2_with fail
  refine (hQ _).mono ?_
  rintro e w2 ⟨rfl, hb⟩
  replace hB := below_next hB hb
  clear hb
  have hz : w.heap.size < w2.heap.size := by have := hB.size; simp at this; omega
  have p0 : w2.cell? ⟨w.heap.size, 0, none⟩ = some (.int .i64 l) := by rw [(bcell hB).1 _ _ (by simp)]; simp [go_sem]
  have p1 : w2.cell? ⟨w.heap.size, 1, none⟩ = some (.int .i64 c) := by rw [(bcell hB).1 _ _ (by simp)]; simp [go_sem]
  have q0 : ∀ o, (w2.alloc o).cell? ⟨w.heap.size, 0, none⟩ = some (.int .i64 l) := fun o => kept_old (below1 w2 o) hz 0 p0
  have q1 : ∀ o, (w2.alloc o).cell? ⟨w.heap.size, 1, none⟩ = some (.int .i64 c) := fun o => kept_old (below1 w2 o) hz 1 p1
  go_wp2_with fail
  refine (good_any _ _ _).mono ?_
  rintro e w3 ⟨rfl, hb⟩
  have r0 : w3.cell? ⟨w.heap.size, 0, none⟩ = some (.int .i64 l) := by rw [(bcell hb).1 _ _ (by simp; omega)]; exact q0 _
  have r1 : w3.cell? ⟨w.heap.size, 1, none⟩ = some (.int .i64 c) := by rw [(bcell hb).1 _ _ (by simp; omega)]; exact q1 _
  have r2 : w3.cell? ⟨w2.heap.size, 0, none⟩ = some (.int .i64 (l : Int)) := by rw [(bcell hb).1 _ _ (by simp)]; simp [go_sem]
  have r3 : w3.cell? ⟨w2.heap.size, 1, none⟩ = some (.int .i64 (c : Int)) := by rw [(bcell hb).1 _ _ (by simp)]; simp [go_sem]
  replace hB := below_next hB ((below1 _ _).trans (hb.mono (by simp)))
  clear hb p0 p1 q0 q1
  go_wp2_with fail
  refine (hR _).mono ?_
  rintro e w4 ⟨rfl, hb⟩
  replace hB := below_next hB hb
  clear hb r0 r1 r2 r3
  go_wp2_with fail
  refine (awake_any _).mono ?_
  rintro e w5 ⟨rfl, hb⟩
  have t0 : w5.cell? ⟨w4.heap.size, 0, none⟩ = some (.int .i64 0) := by rw [(bcell hb).1 _ _ (by simp)]; simp [go_sem]
  have t1 : w5.cell? ⟨w4.heap.size, 1, none⟩ = some (.int .i64 0) := by rw [(bcell hb).1 _ _ (by simp)]; simp [go_sem]
  replace hB := below_next hB ((below1 _ _).trans (hb.mono (by simp)))
  clear hb
  go_wp2
  go_ret
  exact ⟨rfl, (below1 _ _).trans (hB.mono (by simp))⟩

set_option maxHeartbeats 2000000 in
theorem back_good_some (l c : Nat) (h1 : l ≤ 7) (h2 : c < 65536) (k d : Nat) (h3 : k ≤ 7) (h4 : d < 65536) (w : World) :
    Calls Tryd.prog 5 #[.agg #[.int .i64 l, .int .i64 c], .string (textB k d)] w fun e w' => e = .returned (.bool true) ∧ Below w.heap.size w w' := by
  have hP := fun w => print_yes l c h1 h2 w
  have hQ := fun w => read_same w l c h1 h2
  have hg : goodB l c = true := decide_eq_true (by omega)
  generalize textB l c = t at hP hQ
  have hR := fun w => read_same w k d h3 h4
  have hS := fun w => print_yes k d h3 h4 w
  have hh : goodB k d = true := decide_eq_true (by omega)
  generalize textB k d = s at hR hS
  go_enter Tryd.func5, Tryd.ntmps5
  go_wp2_with fail
  refine (hP _).mono ?_
  rintro e w1 ⟨rfl, hB⟩
  go_wp2_with fail
  refine (hQ _).mono ?_
  rintro e w2 ⟨rfl, hb⟩
  replace hB := below_next hB hb
  clear hb
  have hz : w.heap.size < w2.heap.size := by have := hB.size; simp at this; omega
  have p0 : w2.cell? ⟨w.heap.size, 0, none⟩ = some (.int .i64 l) := by rw [(bcell hB).1 _ _ (by simp)]; simp [go_sem]
  have p1 : w2.cell? ⟨w.heap.size, 1, none⟩ = some (.int .i64 c) := by rw [(bcell hB).1 _ _ (by simp)]; simp [go_sem]
  have q0 : ∀ o, (w2.alloc o).cell? ⟨w.heap.size, 0, none⟩ = some (.int .i64 l) := fun o => kept_old (below1 w2 o) hz 0 p0
  have q1 : ∀ o, (w2.alloc o).cell? ⟨w.heap.size, 1, none⟩ = some (.int .i64 c) := fun o => kept_old (below1 w2 o) hz 1 p1
  go_wp2_with fail
  refine (good_any _ _ _).mono ?_
  rintro e w3 ⟨rfl, hb⟩
  have r0 : w3.cell? ⟨w.heap.size, 0, none⟩ = some (.int .i64 l) := by rw [(bcell hb).1 _ _ (by simp; omega)]; exact q0 _
  have r1 : w3.cell? ⟨w.heap.size, 1, none⟩ = some (.int .i64 c) := by rw [(bcell hb).1 _ _ (by simp; omega)]; exact q1 _
  have r2 : w3.cell? ⟨w2.heap.size, 0, none⟩ = some (.int .i64 (l : Int)) := by rw [(bcell hb).1 _ _ (by simp)]; simp [go_sem]
  have r3 : w3.cell? ⟨w2.heap.size, 1, none⟩ = some (.int .i64 (c : Int)) := by rw [(bcell hb).1 _ _ (by simp)]; simp [go_sem]
  replace hB := below_next hB ((below1 _ _).trans (hb.mono (by simp)))
  clear hb p0 p1 q0 q1
  go_wp2_with fail
  refine (hR _).mono ?_
  rintro e w4 ⟨rfl, hb⟩
  replace hB := below_next hB hb
  clear hb r0 r1 r2 r3
  go_wp2_with fail
  refine (hS _).mono ?_
  rintro e w5 ⟨rfl, hb⟩
  have hz5 : w4.heap.size < w5.heap.size := by have := hb.size; simp at this; omega
  have t0 : w5.cell? ⟨w4.heap.size, 0, none⟩ = some (.int .i64 k) := by rw [(bcell hb).1 _ _ (by simp)]; simp [go_sem]
  have t1 : w5.cell? ⟨w4.heap.size, 1, none⟩ = some (.int .i64 d) := by rw [(bcell hb).1 _ _ (by simp)]; simp [go_sem]
  replace hB := below_next hB ((below1 _ _).trans (hb.mono (by simp)))
  clear hb
  go_wp2_with fail
  refine (awake_any _).mono ?_
  rintro e w6 ⟨rfl, hb⟩
  have u0 : w6.cell? ⟨w4.heap.size, 0, none⟩ = some (.int .i64 k) := kept_old hb hz5 0 t0
  have u1 : w6.cell? ⟨w4.heap.size, 1, none⟩ = some (.int .i64 d) := kept_old hb hz5 1 t1
  replace hB := below_next hB hb
  clear hb t0 t1
  go_wp2_with fail
  refine (good_any _ _ _).mono ?_
  rintro e w7 ⟨rfl, hb⟩
  replace hB := below_next hB hb
  clear hb u0 u1
  go_wp2
  go_ret
  exact ⟨rfl, (below1 _ _).trans (hB.mono (by simp))⟩

set_option maxHeartbeats 2000000 in
theorem back_bad_none (l c : Int) (hg : goodB l c = false) (s : ByteArray) (hR : ∀ w, Calls Tryd.prog 9 #[.string s] w fun e w' => e = .returned (.tuple #[.agg #[.int .i64 0, .int .i64 0], .int .i64 3]) ∧ Below w.heap.size w w') (w : World) :
    Calls Tryd.prog 5 #[.agg #[.int .i64 l, .int .i64 c], .string s] w fun e w' => e = .returned (.bool true) ∧ Below w.heap.size w w' := by
  have hP := fun w => print_no l c hg w
  have hQ := read_empty
  go_enter Tryd.func5, Tryd.ntmps5
  go_wp2_with fail
  refine (hP _).mono ?_
  rintro e w1 ⟨rfl, hB⟩
  go_wp2_with fail
  refine (hQ _).mono ?_
  rintro e w2 ⟨rfl, hb⟩
  replace hB := below_next hB hb
  clear hb
  have hz : w.heap.size < w2.heap.size := by have := hB.size; simp at this; omega
  have p0 : w2.cell? ⟨w.heap.size, 0, none⟩ = some (.int .i64 l) := by rw [(bcell hB).1 _ _ (by simp)]; simp [go_sem]
  have p1 : w2.cell? ⟨w.heap.size, 1, none⟩ = some (.int .i64 c) := by rw [(bcell hB).1 _ _ (by simp)]; simp [go_sem]
  have q0 : ∀ o, (w2.alloc o).cell? ⟨w.heap.size, 0, none⟩ = some (.int .i64 l) := fun o => kept_old (below1 w2 o) hz 0 p0
  have q1 : ∀ o, (w2.alloc o).cell? ⟨w.heap.size, 1, none⟩ = some (.int .i64 c) := fun o => kept_old (below1 w2 o) hz 1 p1
  go_wp2_with fail
  refine (good_any _ _ _).mono ?_
  rintro e w3 ⟨rfl, hb⟩
  have r0 : w3.cell? ⟨w.heap.size, 0, none⟩ = some (.int .i64 l) := by rw [(bcell hb).1 _ _ (by simp; omega)]; exact q0 _
  have r1 : w3.cell? ⟨w.heap.size, 1, none⟩ = some (.int .i64 c) := by rw [(bcell hb).1 _ _ (by simp; omega)]; exact q1 _
  have r2 : w3.cell? ⟨w2.heap.size, 0, none⟩ = some (.int .i64 0) := by rw [(bcell hb).1 _ _ (by simp)]; simp [go_sem]
  have r3 : w3.cell? ⟨w2.heap.size, 1, none⟩ = some (.int .i64 0) := by rw [(bcell hb).1 _ _ (by simp)]; simp [go_sem]
  replace hB := below_next hB ((below1 _ _).trans (hb.mono (by simp)))
  clear hb p0 p1 q0 q1
  go_wp2_with fail
  refine (hR _).mono ?_
  rintro e w4 ⟨rfl, hb⟩
  replace hB := below_next hB hb
  clear hb r0 r1 r2 r3
  go_wp2_with fail
  refine (awake_any _).mono ?_
  rintro e w5 ⟨rfl, hb⟩
  have t0 : w5.cell? ⟨w4.heap.size, 0, none⟩ = some (.int .i64 0) := by rw [(bcell hb).1 _ _ (by simp)]; simp [go_sem]
  have t1 : w5.cell? ⟨w4.heap.size, 1, none⟩ = some (.int .i64 0) := by rw [(bcell hb).1 _ _ (by simp)]; simp [go_sem]
  replace hB := below_next hB ((below1 _ _).trans (hb.mono (by simp)))
  clear hb
  go_wp2
  go_ret
  exact ⟨rfl, (below1 _ _).trans (hB.mono (by simp))⟩

set_option maxHeartbeats 2000000 in
theorem back_bad_some (l c : Int) (hg : goodB l c = false) (k d : Nat) (h3 : k ≤ 7) (h4 : d < 65536) (w : World) :
    Calls Tryd.prog 5 #[.agg #[.int .i64 l, .int .i64 c], .string (textB k d)] w fun e w' => e = .returned (.bool true) ∧ Below w.heap.size w w' := by
  have hP := fun w => print_no l c hg w
  have hQ := read_empty
  have hR := fun w => read_same w k d h3 h4
  have hS := fun w => print_yes k d h3 h4 w
  have hh : goodB k d = true := decide_eq_true (by omega)
  generalize textB k d = s at hR hS
  go_enter Tryd.func5, Tryd.ntmps5
  go_wp2_with fail
  refine (hP _).mono ?_
  rintro e w1 ⟨rfl, hB⟩
  go_wp2_with fail
  refine (hQ _).mono ?_
  rintro e w2 ⟨rfl, hb⟩
  replace hB := below_next hB hb
  clear hb
  have hz : w.heap.size < w2.heap.size := by have := hB.size; simp at this; omega
  have p0 : w2.cell? ⟨w.heap.size, 0, none⟩ = some (.int .i64 l) := by rw [(bcell hB).1 _ _ (by simp)]; simp [go_sem]
  have p1 : w2.cell? ⟨w.heap.size, 1, none⟩ = some (.int .i64 c) := by rw [(bcell hB).1 _ _ (by simp)]; simp [go_sem]
  have q0 : ∀ o, (w2.alloc o).cell? ⟨w.heap.size, 0, none⟩ = some (.int .i64 l) := fun o => kept_old (below1 w2 o) hz 0 p0
  have q1 : ∀ o, (w2.alloc o).cell? ⟨w.heap.size, 1, none⟩ = some (.int .i64 c) := fun o => kept_old (below1 w2 o) hz 1 p1
  go_wp2_with fail
  refine (good_any _ _ _).mono ?_
  rintro e w3 ⟨rfl, hb⟩
  have r0 : w3.cell? ⟨w.heap.size, 0, none⟩ = some (.int .i64 l) := by rw [(bcell hb).1 _ _ (by simp; omega)]; exact q0 _
  have r1 : w3.cell? ⟨w.heap.size, 1, none⟩ = some (.int .i64 c) := by rw [(bcell hb).1 _ _ (by simp; omega)]; exact q1 _
  have r2 : w3.cell? ⟨w2.heap.size, 0, none⟩ = some (.int .i64 0) := by rw [(bcell hb).1 _ _ (by simp)]; simp [go_sem]
  have r3 : w3.cell? ⟨w2.heap.size, 1, none⟩ = some (.int .i64 0) := by rw [(bcell hb).1 _ _ (by simp)]; simp [go_sem]
  replace hB := below_next hB ((below1 _ _).trans (hb.mono (by simp)))
  clear hb p0 p1 q0 q1
  go_wp2_with fail
  refine (hR _).mono ?_
  rintro e w4 ⟨rfl, hb⟩
  replace hB := below_next hB hb
  clear hb r0 r1 r2 r3
  go_wp2_with fail
  refine (hS _).mono ?_
  rintro e w5 ⟨rfl, hb⟩
  have hz5 : w4.heap.size < w5.heap.size := by have := hb.size; simp at this; omega
  have t0 : w5.cell? ⟨w4.heap.size, 0, none⟩ = some (.int .i64 k) := by rw [(bcell hb).1 _ _ (by simp)]; simp [go_sem]
  have t1 : w5.cell? ⟨w4.heap.size, 1, none⟩ = some (.int .i64 d) := by rw [(bcell hb).1 _ _ (by simp)]; simp [go_sem]
  replace hB := below_next hB ((below1 _ _).trans (hb.mono (by simp)))
  clear hb
  go_wp2_with fail
  refine (awake_any _).mono ?_
  rintro e w6 ⟨rfl, hb⟩
  have u0 : w6.cell? ⟨w4.heap.size, 0, none⟩ = some (.int .i64 k) := kept_old hb hz5 0 t0
  have u1 : w6.cell? ⟨w4.heap.size, 1, none⟩ = some (.int .i64 d) := kept_old hb hz5 1 t1
  replace hB := below_next hB hb
  clear hb t0 t1
  go_wp2_with fail
  refine (good_any _ _ _).mono ?_
  rintro e w7 ⟨rfl, hb⟩
  replace hB := below_next hB hb
  clear hb u0 u1
  go_wp2
  go_ret
  exact ⟨rfl, (below1 _ _).trans (hB.mono (by simp))⟩

theorem back_walk (l c : Int) (s : ByteArray) (w : World) :
    Calls Tryd.prog 5 #[.agg #[.int .i64 l, .int .i64 c], .string s] w fun e w' => e = .returned (.bool true) ∧ Below w.heap.size w w' := by
  cases hr : refRead s with
  | none =>
    have hR := fun w => read_any s w
    rw [hr] at hR
    cases hg : goodB l c with
    | false => exact back_bad_none l c hg s hR w
    | true =>
      obtain ⟨a, b, rfl, rfl, h1, h2⟩ := good_nats hg
      exact back_good_none a b h1 h2 s hR w
  | some p =>
    obtain ⟨k, d⟩ := p
    obtain ⟨h3, h4, rfl⟩ := refRead_text s k d hr
    cases hg : goodB l c with
    | false => exact back_bad_some l c hg k d h3 h4 w
    | true =>
      obtain ⟨a, b, rfl, rfl, h1, h2⟩ := good_nats hg
      exact back_good_some a b h1 h2 k d h3 h4 w

end Go.Proofs.YtdfiepmpknbffaaDoor
