/-
  SignNames, the law's walk: whether any text is a name.
-/
import Derived.Test.YtdfiepmpknbffaaDoorRefName
namespace Go.Proofs.YtdfiepmpknbffaaDoor
open Go.RowKit

set_option maxHeartbeats 1000000 in
theorem names_walk (s : ByteArray) (hs : s.size ≤ 9223372036854775807) (w : World) :
    Calls Tryd.prog 7 #[.string s] w fun e w' => e = .returned (.bool true) ∧ Below w.heap.size w w' := by
  cases hb : nameB s
  all_goals
    go_enter Tryd.func7, Tryd.ntmps7
    go_wp2_with fail
    refine (awake_any _).mono ?_
    rintro e w1 ⟨rfl, hB⟩
    go_wp2_with fail
    refine (name_any _ _).mono ?_
    rintro e w2 ⟨rfl, hb⟩
    replace hB := below_next hB hb
    clear hb
    go_wp2_with fail
    refine (refName_any _ hs _).mono ?_
    rintro e w3 ⟨rfl, hb⟩
    replace hB := below_next hB hb
    clear hb
    go_wp2
    go_ret
    exact ⟨rfl, hB⟩

end Go.Proofs.YtdfiepmpknbffaaDoor
