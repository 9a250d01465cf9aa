/-
  The fixed fact that each statement asks comes out true; and what no arena answers.
-/
import Derived.Test.YtngaecfainhjcaaALive
namespace Go.Proofs.Ytngaecfainhjcaa.A
open Go.RowKit

theorem turn_next {W a b : World} {B P : Nat} (h : Below W.heap.size W a) (k : Turn B P a b) (h1 : W.heap.size ≤ B) (h2 : W.heap.size ≤ P) : Below W.heap.size W b := h.trans (k.below h.size h1 h2)

def a0 : Ar := newOf 2
def a1 : Ar := takeOf a0
def a2 : Ar := takeOf a1
def a3 : Ar := takeOf a2
def a4 : Ar := freeOf a3 1
def a5 : Ar := takeOf a4
theorem f0 : Fit 0 a0 := newOf_fit (by omega)
theorem f1 : Fit 0 a1 := takeOf_fit f0
theorem f2 : Fit 0 a2 := takeOf_fit f1
theorem f3 : Fit 0 a3 := takeOf_fit f2
theorem f4 : Fit 1 a4 := freeOf_fit f3 1
theorem f5 : Fit 1 a5 := takeOf_fit f4
theorem v0 : takeH a0 = 1 ∧ takeB a0 = true := by decide
theorem v1 : takeH a1 = 2 ∧ takeB a1 = true := by decide
theorem v2 : takeH a2 = 0 ∧ takeB a2 = false := by decide
theorem v3 : isB a3 1 = true := by decide
theorem v4 : takeH a4 = 17 ∧ takeB a4 = true := by decide
theorem v5 : isB a5 1 = false ∧ placeOf a5 17 = 0 ∧ freeOf a5 1 = a5 := by
  refine ⟨by decide, by decide, ?_⟩
  have h : ¬ hits a5 1 := by decide
  exact if_neg h

set_option maxHeartbeats 400000 in
theorem take_nil (w : World) : Calls Try.prog 32 #[.pointer none] w fun e w' => e = .returned (.tuple #[.int .i64 0, .bool false]) ∧ Below w.heap.size w w' := by
  go_enter Try.func32, Try.ntmps32
  go_wp2_with fail
  go_quiet (fail)
  go_wp2
  go_ret2
  exact ⟨rfl, below_drewN _ _⟩
set_option maxHeartbeats 400000 in
theorem place_nil (h : Int) (w : World) : Calls Try.prog 40 #[.pointer none, .int .i64 h] w fun e w' => e = .returned (.int .i64 (-1)) ∧ w' = w := by
  go_enter Try.func40, Try.ntmps40
  go_wp2
  go_ret
  exact ⟨rfl, rfl⟩
set_option maxHeartbeats 400000 in
theorem free_nil (h : Int) (w : World) : Calls Try.prog 34 #[.pointer none, .int .i64 h] w fun e w' => e = .returned (.bool false) ∧ w' = w := by
  go_enter Try.func34, Try.ntmps34
  go_wp2_with (go_at_call 40; refine (place_nil h _).mono ?_; rintro e w2 ⟨rfl, hw2⟩; subst hw2)
  go_ret
  exact ⟨rfl, rfl⟩
set_option maxHeartbeats 400000 in
theorem live_nil (w : World) : Calls Try.prog 39 #[.pointer none] w fun e w' => e = .returned (.slice none 0 0) ∧ w' = w := by
  go_enter Try.func39, Try.ntmps39
  go_wp2
  go_ret
  exact ⟨rfl, rfl⟩

end Go.Proofs.Ytngaecfainhjcaa.A
