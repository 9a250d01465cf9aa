/-
  The walk of the law PolicyChecks.
-/
import Derived.Test.YtmhjoomkeidcaaaDoorAwake
import Derived.Test.YtmhjoomkeidcaaaDoorRefCheck
namespace Go.Proofs.YtmhjoomkeidcaaaDoor
open Go.RowKit L2
attribute [local go_sem] regrown_cell

set_option maxHeartbeats 2000000 in
set_option maxRecDepth 100000 in
theorem checks_walk (a1 a2 a3 : Option Addr) (nd ns nl c1 c2 c3 : Nat) (p : Pol) (w : World) (h1 : p.ds.length = nd) (h2 : p.ss.length = ns) (h3 : p.ls.length = nl) (hh : Held w a1 a2 a3 c1 c2 c3 p) (hI : ∀ d ∈ p.ds, In64 d.cat ∧ d.name.size ≤ 9223372036854775807) :
    Calls Tryd.prog 4 #[.agg #[.slice a1 nd c1, .slice a2 ns c2, .slice a3 nl c3]] w fun e w' => e = .returned (.bool true) ∧ Below w.heap.size w w' := by
  have HC : Hid (∀ W, Held W a1 a2 a3 c1 c2 c3 p → Calls Tryd.prog 10 #[.agg #[.slice a1 nd c1, .slice a2 ns c2, .slice a3 nl c3]] W fun e w' => e = .returned (.int .i64 (checkOf p : Nat)) ∧ Below W.heap.size W w') := fun W hW => check_any a1 a2 a3 nd ns nl c1 c2 c3 p W h1 h2 h3 hW
  have HR : Hid (∀ W, Held W a1 a2 a3 c1 c2 c3 p → Calls Tryd.prog 14 #[.agg #[.slice a1 nd c1, .slice a2 ns c2, .slice a3 nl c3]] W fun e w' => e = .returned (.int .i64 (checkOf p : Nat)) ∧ Below W.heap.size W w') := fun W hW => refCheck_any a1 a2 a3 nd ns nl c1 c2 c3 p W h1 h2 h3 hW hI
  have HH : Hid (Held w a1 a2 a3 c1 c2 c3 p) := hh
  clear hh hI h1 h2 h3
  generalize ((checkOf p : Nat) : Int) = x at *
  have hx : (x == x) = true := by simp
  go_enter Tryd.func4, Tryd.ntmps4
  go_wp2_with fail
  refine wp_region_quiet_below (by kernel_rfl) (by kernel_rfl) ?_
  repeat (first | go_big_quiet_skip | quiet_step (first | (go_at_call 11; exact Calls.regrown_of (awake_any _)) | (go_at_call 10; exact Calls.regrown_of (HC.out _ ((HH.out.below (below1 _ _)).below (below_regrown _ _ _)))) | (go_at_call 14; exact Calls.regrown_of (HR.out _ ((HH.out.below (below1 _ _)).below (below_regrown _ _ _))))))
  refine wpQuiet_nil ?_
  intro w1 hw'
  have hb1 := below_of_regrown hw'
  clear hw'
  go_wp2
  go_ret
  exact ⟨rfl, (below1 _ _).trans (hb1.mono (by simp))⟩

end Go.Proofs.YtmhjoomkeidcaaaDoor
