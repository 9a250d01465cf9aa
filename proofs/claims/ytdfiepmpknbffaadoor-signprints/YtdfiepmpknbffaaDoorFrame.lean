/-
  What each statement's frame leans on: how a label reads, and a start in which the listed variables hold what the program's text lays.
-/
import Derived.Test.YtdfiepmpknbffaaDoorAwake
import Derived.Test.YtdfiepmpknbffaaDoorCards
import Derived.Test.YtdfiepmpknbffaaDoorTie
import Derived.ProofKit
import Derived.OpenShut
import Derived.LaidMore
import Derived.Lib.SmallJoins
import Derived.Stop.Joined
namespace Go.Proofs.YtdfiepmpknbffaaDoor
open Go.ChangeShapes Go.WideShapes Go.ChangeAt Go.RowKit Go.Joins

theorem own : ownKnob Tryd.prog.godebug = none := by kernel_rfl
theorem cells23 : Tryd.prog.cellsOf 23 = 2 := by kernel_rfl

/-- A label by value reads so, in every world. -/
theorem labReads {H : Type} {enc : TypeId × Value → H} {l c : Int} (wl : (Lit.int .i64 l).wf = true) (wc : (Lit.int .i64 c).wf = true) (W' : World) (sp : Nat → Bool) :
    DataW.Trod enc Tryd.prog W' 0 sp true 23 (.agg #[.int .i64 l, .int .i64 c]) (.agg [.lit (.int .i64 l), .lit (.int .i64 c)]) [] :=
  shut_agg2 (y0 := (.lit (.int .i64 l), [])) (y1 := (.lit (.int .i64 c), [])) Tryd.underlying23 (by kernel_rfl) cells23 ⟨1, by simp [DataW.trod, Tryd.underlying3, wl]⟩ ⟨1, by simp [DataW.trod, Tryd.underlying3, wc]⟩

theorem in64_of_wf {x : Int} (h : (Lit.int .i64 x).wf = true) : In64 x := by
  have := bounds_i64 h
  unfold In64
  omega

/-- The door's own heap holds the listed variables as the program's text lays them. -/
theorem door_met (os : Os) (args : Array Value) : laidMetH Tryd.prog Rows.signCatsRow.laid ((World.doorLaid Tryd.prog 400 os).forCall (fun _ _ => 0) ⟨#[], args, []⟩).memory :=
  laidMetH_of_parts3 (fuel := 8) (laidMet_of_run' 8 (by kernel_rfl) (by kernel_rfl)) (by kernel_rfl) (by kernel_rfl)

end Go.Proofs.YtdfiepmpknbffaaDoor
