/-
  A list of slots that is read lies in memory as a row of pairs.
-/
import Derived.Test.YtkpnkpkokjcdoaaLaws
import Derived.ProofKit
import Derived.OpenShut
import Derived.Lib.SmallJoins
import Derived.Deep.SlicePairs
namespace Go.Proofs.Ytkpnkpkokjcdoaa
open Go.ChangeShapes Go.WideShapes Go.ChangeAt Go.RowKit Go.Joins Go.Deep

theorem own : ownKnob Try.prog.godebug = none := by kernel_rfl
theorem cells35 : Try.prog.cellsOf 35 = 2 := by kernel_rfl
theorem laidOut : laidOutB Try.prog = true := by kernel_rfl

theorem slots_open {H : Type} {enc : TypeId × Value → H} {W : World} {a0 : Option Addr} {len cap fuel : Nat} {sp : Nat → Bool} {x : DataW H × List MemPlace}
    (hf : DataW.trod enc Try.prog W 0 sp true fuel 22 [.slice a0 len cap] = some x) : len ≤ cap ∧ cap ≤ maxLen ∧ ∃ ls : List (Int × Int), Few len ls ∧ SlotRow W.heap.size W a0 ls := by
  obtain ⟨n, hn, hn'⟩ : ∃ n, n ≤ len ∧ (len ≤ 16 ∧ n = len ∨ 16 < len ∧ n = 16) := ⟨min len 16, by omega, by omega⟩
  rcases open_slice_pairs Try.underlying22 Try.underlying35 cells35 rfl rfl (by kernel_rfl) (by kernel_rfl) hf with ⟨hcs, _⟩ | ⟨a, l, c, m, k, V0, V1, D0, D1, P0, P1, hcs, _, hl, hm, hmm, _, hcell⟩
  · simp at hcs
    obtain ⟨rfl, rfl, rfl⟩ := hcs
    exact ⟨Nat.le_refl _, by unfold maxLen; omega, [], .inl ⟨by omega, rfl⟩, Or.inl rfl⟩
  · simp at hcs
    obtain ⟨rfl, rfl, rfl⟩ := hcs
    have hlm : len ≤ m := by rw [hmm]; split <;> omega
    refine ⟨hl, hm, (List.range n).map fun i => (intOf (V0 i), intOf (V1 i)), by unfold Few; simp; omega, ?_⟩
    by_cases h0 : n = 0
    · subst h0; exact Or.inl rfl
    · right
      obtain ⟨b, off, spot⟩ := a
      have hspot : spot = none := by simpa [Addr.add] using World.cell?_spot (hcell 0 (by omega)).1
      subst hspot
      refine ⟨b, off, rfl, ?_, fun i hi => ?_⟩
      · have := block_lt_of_cell (hcell 0 (by omega)).1
        simpa [Addr.add] using this
      · simp at hi
        obtain ⟨h1, h2, h3, h4⟩ := hcell i (by omega)
        obtain ⟨y0, e0, _, _⟩ := DataW.trod_int Try.underlying3 h3
        obtain ⟨y1, e1, _, _⟩ := DataW.trod_int Try.underlying3 h4
        simp at e0 e1
        rw [add_plain] at h1 h2
        have f0 : dm ((List.range n).map fun i => (intOf (V0 i), intOf (V1 i))) i = y0 := by simp [dm, hi, e0, intOf]
        have f1 : ln ((List.range n).map fun i => (intOf (V0 i), intOf (V1 i))) i = y1 := by simp [ln, hi, e1, intOf]
        rw [f0, f1, ← e0, ← e1]
        exact ⟨h1, by rw [Nat.add_assoc]; exact h2⟩

end Go.Proofs.Ytkpnkpkokjcdoaa
