/-
  What the document's at comes to.
-/
import Derived.Test.YtgfkleaekaggoaaApp
import Derived.Deep.DeepCutAuto
namespace Go.Proofs.Ytgfkleaekaggoaa
open Go.RowKit

theorem idx_none (l : List Int) (t : Int) (k : Nat) (hk : l.length ≤ k) (h : ∀ j, j < k → gz l j ≠ t) : idxZ l t = -1 := by
  refine idx_out (inZ_false.2 fun hm => ?_)
  obtain ⟨j, h1, h2, _⟩ := in_at (inZ_true.2 hm)
  exact h j (by omega) h2

set_option maxHeartbeats 1000000 in
theorem at_any (R base : Nat) (u : Value) (o c : Int) (l : List Int) (hl : l.length ≤ 1000) (t : Int) (w : World) (hR : AtR w R base u o c l) :
    Calls Try.prog 21 #[.pointer (some ⟨R, 0, none⟩), .int .i64 t] w fun e w' => e = .returned (.int .i64 (idxZ l t)) ∧ w' = w := by
  obtain ⟨_, _, c0, _⟩ := hR.cells
  obtain ⟨av, ac, rfl⟩ := owns_slice hR.row
  have HO := hide hR.row
  clear hR
  go_enter Try.func21, Try.ntmps21
  go_wp2
  go_loop [5] (fun i => ∃ k : Nat, k ≤ l.length ∧ i = .int .i64 k ∧ Hid (∀ j, j < k → gz l j ≠ t)) (fun i => l.length - (intOf i).toNat)
  case atStart => exact ⟨0, Nat.zero_le _, rfl, fun j hj => absurd hj (by omega)⟩
  case round =>
    obtain ⟨k, hk, rfl, HH⟩ := hrel
    by_cases hlt : k < l.length
    · obtain ⟨g, c3, hv, _, hgl, hcell, _⟩ := row_open HO.out (by omega)
      simp only [Value.slice.injEq, true_and] at hv
      obtain ⟨rfl, rfl⟩ := hv
      obtain ⟨e1, _⟩ := hcell k hlt
      have i1 : (k : Int) < (l.length : Int) := by omega
      have i0 : (0 : Int) ≤ (k : Int) := by omega
      clear hcell
      by_cases hx : gz l k = t
      · have HX := hide (idx_at hlt hx HH.out)
        have hx' : (gz l k == t) = true := by simpa using hx
        clear hx
        generalize gz l k = X at *
        go_wp2
        go_ret
        refine ⟨?_, rfl⟩
        exact ret_int HX.out.symm
      · have HH2 : Hid (∀ j, j < k + 1 → gz l j ≠ t) := fun j hj => by
          by_cases e : j = k
          · subst e; exact hx
          · exact HH.out j (by omega)
        have hx' : (gz l k == t) = false := by simpa using hx
        clear hx
        generalize gz l k = X at *
        go_wp2
        go_round
        case rel => exact ⟨k + 1, by omega, by go_num, HH2⟩
        case measure => simp [intOf]; omega
    · have HX := hide (idx_none l t k (by omega) HH.out)
      go_wp2
      go_ret
      refine ⟨?_, rfl⟩
      exact ret_int HX.out.symm


end Go.Proofs.Ytgfkleaekaggoaa
