/-
  The document's own join and meet come to what the code's do; the walk of the law LabelDoes.
-/
import Derived.Test.YtkecnjahknjblaaPut
import Derived.Test.YtkecnjahknjblaaOrder
namespace Go.Proofs.Ytkecnjahknjblaa
open Go.RowKit
attribute [local go_sem ↓] Go.wp_at_zero Go.wp_at_succ
attribute [local go_sem] regrown_cell

theorem below4d (w : World) (o1 o2 o3 o4 : Obj) : Below w.heap.size w ((((w.alloc o1).alloc o2).alloc o3).alloc o4).drew :=
  ((below3 w o1 o2 o3).alloc (by simp; omega) o4).drew

set_option maxHeartbeats 2000000 in
theorem refJoin_any (al ac bl bc : Int) (w : World) :
    Calls Try.prog 14 #[.agg #[.int .i64 al, .int .i64 ac], .agg #[.int .i64 bl, .int .i64 bc]] w fun e w' => e = .returned (.agg #[.int .i64 (max al bl), .int .i64 (bits .or .i64 ac bc)]) ∧ Below w.heap.size w w' := by
  by_cases h : al < bl
  · rw [show max al bl = bl by omega]
    go_enter Try.func14, Try.ntmps14
    go_wp2_with fail
    go_region_held3 (fun w' => w'.cell? ⟨w.heap.size, 0, none⟩ = some (.int .i64 al) ∧ w'.cell? ⟨w.heap.size, 1, none⟩ = some (.int .i64 ac) ∧ w'.cell? ⟨w.heap.size + 1, 1, none⟩ = some (.int .i64 bc))
      (go_keep)
      (first | (go_at_call 21; refine (put_or _ _ _).mono ?_; rintro e w1 ⟨rfl, rfl⟩))
    all_goals
      go_wp2
      exact bodyPost_ret (v := .agg #[.int .i64 bl, .int .i64 (bits .or .i64 ac bc)]) (by simp [results, Try.results14, go_sem]) rfl ⟨rfl, below4d _ _ _ _ _⟩
  · rw [show max al bl = al by omega]
    go_enter Try.func14, Try.ntmps14
    go_wp2_with fail
    go_region_held3 (fun w' => w'.cell? ⟨w.heap.size, 0, none⟩ = some (.int .i64 al) ∧ w'.cell? ⟨w.heap.size, 1, none⟩ = some (.int .i64 ac) ∧ w'.cell? ⟨w.heap.size + 1, 1, none⟩ = some (.int .i64 bc))
      (go_keep)
      (first | (go_at_call 21; refine (put_or _ _ _).mono ?_; rintro e w1 ⟨rfl, rfl⟩))
    all_goals
      go_wp2
      exact bodyPost_ret (v := .agg #[.int .i64 al, .int .i64 (bits .or .i64 ac bc)]) (by simp [results, Try.results14, go_sem]) rfl ⟨rfl, below4d _ _ _ _ _⟩

set_option maxHeartbeats 2000000 in
theorem refMeet_any (al ac bl bc : Int) (w : World) :
    Calls Try.prog 15 #[.agg #[.int .i64 al, .int .i64 ac], .agg #[.int .i64 bl, .int .i64 bc]] w fun e w' => e = .returned (.agg #[.int .i64 (min al bl), .int .i64 (bits .and .i64 ac bc)]) ∧ Below w.heap.size w w' := by
  by_cases h : bl < al
  · rw [show min al bl = bl by omega]
    go_enter Try.func15, Try.ntmps15
    go_wp2_with fail
    go_region_held3 (fun w' => w'.cell? ⟨w.heap.size, 0, none⟩ = some (.int .i64 al) ∧ w'.cell? ⟨w.heap.size, 1, none⟩ = some (.int .i64 ac) ∧ w'.cell? ⟨w.heap.size + 1, 1, none⟩ = some (.int .i64 bc))
      (go_keep)
      (first | (go_at_call 21; refine (put_and _ _ _).mono ?_; rintro e w1 ⟨rfl, rfl⟩))
    all_goals
      go_wp2
      exact bodyPost_ret (v := .agg #[.int .i64 bl, .int .i64 (bits .and .i64 ac bc)]) (by simp [results, Try.results15, go_sem]) rfl ⟨rfl, below4d _ _ _ _ _⟩
  · rw [show min al bl = al by omega]
    go_enter Try.func15, Try.ntmps15
    go_wp2_with fail
    go_region_held3 (fun w' => w'.cell? ⟨w.heap.size, 0, none⟩ = some (.int .i64 al) ∧ w'.cell? ⟨w.heap.size, 1, none⟩ = some (.int .i64 ac) ∧ w'.cell? ⟨w.heap.size + 1, 1, none⟩ = some (.int .i64 bc))
      (go_keep)
      (first | (go_at_call 21; refine (put_and _ _ _).mono ?_; rintro e w1 ⟨rfl, rfl⟩))
    all_goals
      go_wp2
      exact bodyPost_ret (v := .agg #[.int .i64 al, .int .i64 (bits .and .i64 ac bc)]) (by simp [results, Try.results15, go_sem]) rfl ⟨rfl, below4d _ _ _ _ _⟩

set_option maxHeartbeats 4000000 in
set_option maxRecDepth 100000 in
theorem does_walk (al ac bl bc : Int) (ha : In64 ac) (w : World) :
    Calls Try.prog 5 #[.agg #[.int .i64 al, .int .i64 ac], .agg #[.int .i64 bl, .int .i64 bc]] w fun e w' => e = .returned (.bool true) ∧ Below w.heap.size w w' := by
  go_enter Try.func5, Try.ntmps5
  go_wp2_with fail
  refine wp_region_quiet_below (by kernel_rfl) (by kernel_rfl) ?_
  repeat (first | go_big_quiet_skip | quiet_step (first | (go_at_call 8; exact Calls.regrown_of (awake_any _)) | (go_at_call 11; exact Calls.regrown_of (good_any _ _ _)) | (go_at_call 12; exact Calls.regrown_of (refGood_any _ _ _ ha)) | (go_at_call 7; exact Calls.regrown_of (leq_any _ _ _ _ _)) | (go_at_call 13; exact Calls.regrown_of (refLeq_any _ _ _ _ _)) | (go_at_call 9; exact Calls.regrown_of (join_any _ _ _ _ _)) | (go_at_call 14; exact Calls.regrown_of (refJoin_any _ _ _ _ _)) | (go_at_call 10; exact Calls.regrown_of (meet_any _ _ _ _ _)) | (go_at_call 15; exact Calls.regrown_of (refMeet_any _ _ _ _ _))))
  refine wpQuiet_nil ?_
  intro w1 hw'
  have hB := below_of_regrown hw'
  clear hw'
  go_wp2
  go_ret
  exact ⟨rfl, (below2 _ _ _).trans (hB.mono (by simp; omega))⟩

end Go.Proofs.Ytkecnjahknjblaa
