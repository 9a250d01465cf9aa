/-
  What slices' sorting comes to at few numbers: insertion alone.
-/
import Derived.Test.YtnciefdhgokffaaIns
import Derived.Test.YtnciefdhgokffaaLay
namespace Go.Proofs.Ytnciefdhgokffaa
open Go.RowKit

def Sorted (w0 : World) (g c n B : Nat) (σ : Ws) (lo hi : Nat) (x : Nat → Nat) (e : Ending) (w' : World) : Prop :=
  e = .returned (.tuple #[]) ∧ ∃ y, Sw lo hi x y ∧ Sd (key σ) lo hi y ∧ Srt w0 g c n B σ y w'

set_option maxHeartbeats 2000000 in
set_option maxRecDepth 100000 in
theorem pdq_few (KK : Nat) (hKK : KK ≤ 1000000) (w0 : World) (g c n B : Nat) (σ : Ws) (hO : Ok KK σ) (hn : n ≤ 16) (lo hi : Nat) (hlo : lo ≤ hi) (hhi : hi ≤ n) (h12 : hi - lo ≤ 12) (lim : Int) (x : Nat → Nat) (w : World) (hS : Srt w0 g c n B σ x w) :
    Calls Try.prog 28 #[.slice (some ⟨g, 0, none⟩) n c, .int .i64 (lo : Int), .int .i64 (hi : Int), .int .i64 lim, .func (.func 24) #[.pointer (some ⟨B, 0, none⟩)] #[]] w fun e w' => Sorted w0 g c n B σ lo hi x e w' := by
  have HI := hide (ins_any KK hKK w0 g c n B σ hO hn lo hi hlo hhi x w hS)
  have h12' : (hi : Int) - (lo : Int) ≤ 12 := by omega
  clear hS
  go_enter Try.func28, Try.ntmps28
  go_wp2
  refine wp_loop_rounds 1 ?_
  rw [rounds_succ]
  go_wp2_with (go_at_call 33; refine HI.out.mono ?_; rintro e w' ⟨rfl, h⟩)
  (try simp only [Exit.inBlock, Exit.then])
  refine bodyPost_ret (results_none rfl _ _ _) rfl ?_
  exact ⟨rfl, h⟩

end Go.Proofs.Ytnciefdhgokffaa
