/-
  The document's own comparing of two lists of numbers says yes of two that hold the same.
-/
import Derived.Test.YtkecnjahknjblaaBelow
namespace Go.Proofs.Ytkecnjahknjblaa
open Go.RowKit

/-- A list of numbers as it lies in memory. -/
def NatRow (w : World) (ad : Option Addr) (l : List Nat) : Prop :=
  l = [] ∨ ∃ g, ad = some ⟨g, 0, none⟩ ∧ g < w.heap.size ∧ ∀ j, j < l.length → w.cell? ⟨g, j, none⟩ = some (.int .i64 ((l.getD j 0 : Nat) : Int))

theorem NatRow.below {w w' : World} {ad : Option Addr} {l : List Nat} (h : NatRow w ad l) (k : Below w.heap.size w w') : NatRow w' ad l := by
  rcases h with h | ⟨g, h1, h2, h3⟩
  · exact Or.inl h
  · refine Or.inr ⟨g, h1, Nat.lt_of_lt_of_le h2 k.size, fun j hj => ?_⟩
    rw [k.cell (p := ⟨g, j, none⟩) h2]
    exact h3 j hj

theorem owns_form {w : World} {base : Nat} {v : Value} {l : List Nat} (h : w.ownsRow base 3 1 v l.length (cellsOf l)) : ∃ ao cap, v = .slice ao l.length cap ∧ NatRow w ao l := by
  have h' := h
  obtain ⟨h1, h2⟩ := h
  rcases h2 with ⟨rfl, h2⟩ | ⟨g, cap, cur, rfl, hg, hh, r⟩
  · exact ⟨none, 0, by rw [h2], Or.inl (List.length_eq_zero_iff.1 h2)⟩
  · refine ⟨some ⟨g, 0, none⟩, cap, rfl, Or.inr ⟨g, rfl, ?_, fun j hj => ?_⟩⟩
    · rcases Nat.lt_or_ge g w.heap.size with h' | h'
      · exact h'
      · rw [Array.getElem?_eq_none h'] at hh; cases hh
    · rw [h'.cellAt j (by omega)]
      simp [cellsOf, hj]

set_option maxHeartbeats 2000000 in
set_option maxRecDepth 100000 in
theorem ints_same (a1 a2 : Option Addr) (c1 c2 : Nat) (l : List Nat) (w : World) (hl : l.length ≤ 100) (h1 : NatRow w a1 l) (h2 : NatRow w a2 l) :
    Calls Try.prog 17 #[.slice a1 l.length c1, .slice a2 l.length c2] w fun e w' => e = .returned (.bool true) ∧ Below w.heap.size w w' := by
  have H1 : Hid (NatRow w a1 l) := h1
  have H2 : Hid (NatRow w a2 l) := h2
  clear h1 h2
  go_enter Try.func17, Try.ntmps17
  go_wp2
  go_loopw [5] (fun i wr => ∃ k : Nat, k ≤ l.length ∧ i = .int .i64 k ∧ Below w.heap.size w wr) (fun i _ => l.length - (intOf i).toNat)
  case atStart => exact ⟨0, Nat.zero_le _, rfl, Below.refl _ _⟩
  case round =>
    obtain ⟨k, hk, rfl, hnx⟩ := hrel
    by_cases hlt : k < l.length
    · obtain ⟨g1, rfl, g1l, e1⟩ : ∃ g, a1 = some ⟨g, 0, none⟩ ∧ g < w.heap.size ∧ ∀ j, j < l.length → w.cell? ⟨g, j, none⟩ = some (.int .i64 ((l.getD j 0 : Nat) : Int)) := by
        rcases H1.out with h | h
        · rw [h] at hlt; simp at hlt
        · exact h
      obtain ⟨g2, rfl, g2l, e2⟩ : ∃ g, a2 = some ⟨g, 0, none⟩ ∧ g < w.heap.size ∧ ∀ j, j < l.length → w.cell? ⟨g, j, none⟩ = some (.int .i64 ((l.getD j 0 : Nat) : Int)) := by
        rcases H2.out with h | h
        · rw [h] at hlt; simp at hlt
        · exact h
      obtain ⟨x, hx⟩ : ∃ x : Int, x = ((l.getD k 0 : Nat) : Int) := ⟨_, rfl⟩
      have q1 : wr.cell? ⟨g1, k, none⟩ = some (.int .i64 x) := by rw [hnx.cell (p := ⟨g1, k, none⟩) g1l, hx]; exact e1 k hlt
      have q2 : wr.cell? ⟨g2, k, none⟩ = some (.int .i64 x) := by rw [hnx.cell (p := ⟨g2, k, none⟩) g2l, hx]; exact e2 k hlt
      have b1 : (k : Int) < (l.length : Int) := by omega
      have b0 : (0 : Int) ≤ (k : Int) := by omega
      clear e1 e2 hx
      go_wp2_with fail
      go_quiet (fail)
      go_wp2
      go_roundw
      case rel => exact ⟨k + 1, by omega, by go_num, hnx.trans ⟨rfl, rfl, rfl, Nat.le_refl _, fun _ _ => rfl⟩⟩
      case measure => simp [intOf]; omega
    · go_wp2
      go_ret
      exact ⟨rfl, hnx⟩

end Go.Proofs.Ytkecnjahknjblaa
