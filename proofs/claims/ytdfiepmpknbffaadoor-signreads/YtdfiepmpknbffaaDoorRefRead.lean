/-
  What the document's own answer for reading a text comes to: the same label, or none.
-/
import Derived.Test.YtdfiepmpknbffaaDoorRefName
namespace Go.Proofs.YtdfiepmpknbffaaDoor
open Go.RowKit

theorem refRead_not (s : ByteArray) (h : refOK s = false) : refRead s = none := by unfold refRead; rw [h]; rfl

set_option maxHeartbeats 2000000 in
theorem refRead_bad (s : ByteArray) (hs : s.size ≤ 9223372036854775807) (h : refOK s = false) (w : World) :
    Calls Tryd.prog 10 #[.string s] w fun e w' => e = .returned (.tuple #[.agg #[.int .i64 0, .int .i64 0], .int .i64 3]) ∧ Below w.heap.size w w' := by
  have h' := of_decide_eq_false h
  clear h
  by_cases h3 : s.size < 3
  · clear h'
    go_enter Tryd.func10, Tryd.ntmps10
    go_wp2
    exact bodyPost_ret (v := .tuple #[.agg #[.int .i64 0, .int .i64 0], .int .i64 3]) (by simp [results, Tryd.results10, go_sem]) rfl ⟨rfl, below1 _ _⟩
  by_cases h35 : 35 < s.size
  · clear h'
    go_enter Tryd.func10, Tryd.ntmps10
    go_wp2
    exact bodyPost_ret (v := .tuple #[.agg #[.int .i64 0, .int .i64 0], .int .i64 3]) (by simp [results, Tryd.results10, go_sem]) rfl ⟨rfl, below1 _ _⟩
  have hk0 : 0 < s.size := by omega
  have hk1 : 1 < s.size := by omega
  have hkl : s.size - 1 < s.size := by omega
  obtain ⟨a, ha⟩ : ∃ a : Nat, a = (s.get! 0).toNat := ⟨_, rfl⟩
  obtain ⟨b, hb⟩ : ∃ b : Nat, b = (s.get! 1).toNat := ⟨_, rfl⟩
  obtain ⟨z, hz⟩ : ∃ z : Nat, z = (s.get! (s.size - 1)).toNat := ⟨_, rfl⟩
  have ea : (s[0]'hk0).toNat = a := by rw [get_bang, ha]
  have eb : (s[1]'hk1).toNat = b := by rw [get_bang, hb]
  have ez : (s[s.size - 1]'hkl).toNat = z := by rw [get_bang, hz]
  rw [← ha, ← hb, ← hz] at h'
  clear ha hb hz
  have hcase : a < 48 ∨ (48 ≤ a ∧ 55 < a) ∨ (48 ≤ a ∧ a ≤ 55 ∧ ¬ (b : Int) = 123) ∨ (48 ≤ a ∧ a ≤ 55 ∧ (b : Int) = 123 ∧ ¬ (z : Int) = 125) ∨ (48 ≤ a ∧ a ≤ 55 ∧ (b : Int) = 123 ∧ (z : Int) = 125 ∧ ((s.size : Int) % 2 == 0) = true) := by
    simp only [beq_iff_eq]; omega
  clear h'
  rcases hcase with h | ⟨h, h1⟩ | ⟨h, h1, h2⟩ | ⟨h, h1, h2, h4⟩ | ⟨h, h1, h2, h4, h5⟩
  · go_enter Tryd.func10, Tryd.ntmps10
    go_wp2
    exact bodyPost_ret (v := .tuple #[.agg #[.int .i64 0, .int .i64 0], .int .i64 3]) (by simp [results, Tryd.results10, go_sem]) rfl ⟨rfl, below1 _ _⟩
  · go_enter Tryd.func10, Tryd.ntmps10
    go_wp2
    exact bodyPost_ret (v := .tuple #[.agg #[.int .i64 0, .int .i64 0], .int .i64 3]) (by simp [results, Tryd.results10, go_sem]) rfl ⟨rfl, below1 _ _⟩
  · go_enter Tryd.func10, Tryd.ntmps10
    go_wp2
    exact bodyPost_ret (v := .tuple #[.agg #[.int .i64 0, .int .i64 0], .int .i64 3]) (by simp [results, Tryd.results10, go_sem]) rfl ⟨rfl, below1 _ _⟩
  · go_enter Tryd.func10, Tryd.ntmps10
    go_wp2
    exact bodyPost_ret (v := .tuple #[.agg #[.int .i64 0, .int .i64 0], .int .i64 3]) (by simp [results, Tryd.results10, go_sem]) rfl ⟨rfl, below1 _ _⟩
  · go_enter Tryd.func10, Tryd.ntmps10
    go_wp2
    exact bodyPost_ret (v := .tuple #[.agg #[.int .i64 0, .int .i64 0], .int .i64 3]) (by simp [results, Tryd.results10, go_sem]) rfl ⟨rfl, below1 _ _⟩

end Go.Proofs.YtdfiepmpknbffaaDoor
