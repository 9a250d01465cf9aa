/-
  The document's wake-ups in memory; its New, and Alike.
-/
import Derived.Test.YtiookbmffdmdeaaDel
import Derived.Lib.QuietBelow
import Derived.Deep.SlicePairs
import Derived.Deep.DrawnRows
import Derived.Deep.AppendLies
namespace Go.Proofs.Ytiookbmffdmdeaa
open Go.RowKit

structure AtR (w : World) (R base n : Nat) (v : Value) (l : List Wk) : Prop where
  box : w.heap[R]? = some (.cells #[v, .int .i64 (n : Int)] 34 (0, 0))
  row : w.ownsRow base 31 2 v l.length (cW l)
variable {w w' : World} {R base n : Nat} {v : Value} {l : List Wk}
theorem owns_keep {e size m : Nat} {xs : List Value} (h : w.ownsRow base e size v m xs) (k : ∀ g, v.ownBlock = some g → w'.heap[g]? = w.heap[g]?) : w'.ownsRow base e size v m xs := by
  refine ⟨h.1, ?_⟩
  rcases h.2 with h3 | ⟨g, cap, cur, rfl, hb, hh, r⟩
  · exact Or.inl h3
  · exact Or.inr ⟨g, cap, cur, rfl, hb, (k g rfl).trans hh, r⟩
theorem owns_far {e size m : Nat} {xs : List Value} (h : w.ownsRow base e size v m xs) {B : Nat} {cs : Array Value} {t : TypeId} {fr : Nat × Nat} (hB : w.heap[B]? = some (.cells cs t fr)) (ht : t ≠ e) : v.ownBlock ≠ some B := by
  intro hk
  rcases h.2 with ⟨rfl, _⟩ | ⟨g, cap, cur, rfl, _, hh, _⟩
  · simp [Value.ownBlock] at hk
  · simp [Value.ownBlock] at hk
    subst hk
    rw [hB] at hh
    cases hh
    exact ht rfl
theorem AtR.lt (h : AtR w R base n v l) : R < w.heap.size := (Array.getElem?_eq_some_iff.1 h.box).1
theorem AtR.far (h : AtR w R base n v l) : v.ownBlock ≠ some R := owns_far h.row h.box (by decide)
theorem AtR.keep (h : AtR w R base n v l) (k : w'.heap[R]? = w.heap[R]?) (k2 : ∀ g, v.ownBlock = some g → w'.heap[g]? = w.heap[g]?) : AtR w' R base n v l := ⟨k.trans h.box, owns_keep h.row k2⟩
theorem AtR.below (h : AtR w R base n v l) (k : Below w.heap.size w w') : AtR w' R base n v l := h.keep (k.block _ h.lt) (fun g hg => k.block _ (h.row.lt g hg).2)
theorem AtR.cells (h : AtR w R base n v l) : w.cell? ⟨R, 0, none⟩ = some v ∧ w.cell? ⟨R, 1, none⟩ = some (.int .i64 (n : Int)) ∧ ∀ j, w.frozen? ⟨R, j, none⟩ = false :=
  ⟨Lib.cell_of_heap h.box 0, Lib.cell_of_heap h.box 1, fun j => Lib.frozen_of_heap h.box j⟩
theorem AtR.form (h : AtR w R base n v l) : ∃ a c, v = .slice a l.length c := by
  rcases h.row.2 with ⟨h1, h2⟩ | ⟨g, cap, cur, hv, _⟩
  · exact ⟨none, 0, by rw [h1, h2]⟩
  · exact ⟨_, _, hv⟩

/-- A row of wake-ups that can be read. -/
def RowA (w : World) (a : Option Addr) (l : List Wk) : Prop :=
  l ≠ [] → ∃ g, a = some ⟨g, 0, none⟩ ∧ g < w.heap.size ∧ ∀ i, i < l.length → w.cell? ⟨g, i * 2, none⟩ = some (.int .i64 (wk l i).t) ∧ w.cell? ⟨g, i * 2 + 1, none⟩ = some (.int .i64 (wk l i).e)
theorem RowA.below {a : Option Addr} (h : RowA w a l) (k : Below w.heap.size w w') : RowA w' a l := fun hn => by
  obtain ⟨g, h1, h2, h3⟩ := h hn
  exact ⟨g, h1, Nat.lt_of_lt_of_le h2 k.size, fun i hi => ⟨(k.cell (p := ⟨g, _, none⟩) h2).trans (h3 i hi).1, (k.cell (p := ⟨g, _, none⟩) h2).trans (h3 i hi).2⟩⟩
theorem owns_rowA {a : Option Addr} {c : Nat} (h : w.ownsRow base 31 2 (.slice a l.length c) l.length (cW l)) : RowA w a l := fun hn => by
  rcases h.2 with ⟨_, h2⟩ | ⟨g, cap, cur, hv, hb, hh, _⟩
  · exact absurd (List.length_eq_zero_iff.1 h2) hn
  · injection hv with e1 e2 e3
    subst e1
    refine ⟨g, rfl, (Array.getElem?_eq_some_iff.1 hh).1, fun i hi => ?_⟩
    obtain ⟨a1, a2⟩ := cW_at l i hi
    have h' : w.ownsRow base 31 2 (.slice (some ⟨g, 0, none⟩) l.length c) l.length (cW l) := h
    exact ⟨(h'.cellAt (i * 2) (by omega)).trans a1, (h'.cellAt (i * 2 + 1) (by omega)).trans a2⟩

set_option maxHeartbeats 400000 in
theorem refNew_any (m : Int) (w : World) : Calls Try.prog 8 #[.int .i64 m] w fun e w' => e = .returned (.pointer (some ⟨w.heap.size, 0, none⟩)) ∧ AtR w' w.heap.size w.heap.size (heldN m) (.slice none 0 0) [] ∧ Below w.heap.size w w' := by
  by_cases h1 : m < 0
  · have e : ((heldN m : Nat) : Int) = 0 := by unfold heldN; omega
    have e' : heldN m = 0 := by omega
    rw [e']
    clear e e'
    go_enter Try.func8, Try.ntmps8
    go_wp2
    go_ret
    exact ⟨rfl, ⟨heap_alloc_new _ _, World.ownsRow_nil _ _ _ _⟩, below1 _ _⟩
  · by_cases h2 : 8 < m
    · have e' : heldN m = 8 := by unfold heldN; omega
      rw [e']
      clear e'
      go_enter Try.func8, Try.ntmps8
      go_wp2
      go_ret
      exact ⟨rfl, ⟨heap_alloc_new _ _, World.ownsRow_nil _ _ _ _⟩, below1 _ _⟩
    · obtain ⟨k, hk⟩ : ∃ k : Nat, heldN m = k := ⟨_, rfl⟩
      have e : m = (k : Int) := by unfold heldN at hk; omega
      rw [hk]
      subst e
      clear hk
      go_enter Try.func8, Try.ntmps8
      go_wp2
      go_ret
      exact ⟨rfl, ⟨heap_alloc_new _ _, World.ownsRow_nil _ _ _ _⟩, below1 _ _⟩

set_option maxHeartbeats 1000000 in
theorem alike_same (a1 a2 : Option Addr) (c1 c2 : Nat) (l : List Wk) (hl : l.length ≤ 100) (w : World) (h1 : RowA w a1 l) (h2 : RowA w a2 l) :
    Calls Try.prog 12 #[.slice a1 l.length c1, .slice a2 l.length c2] w fun e w' => e = .returned (.bool true) ∧ Below w.heap.size w w' := by
  have H : Hid (RowA w a1 l ∧ RowA w a2 l) := ⟨h1, h2⟩
  clear h1 h2
  obtain ⟨n, hn⟩ : ∃ n, l.length = n := ⟨_, rfl⟩
  have HN := hide hn
  rw [hn] at hl ⊢
  clear hn
  have hnn : ((n : Int) != n) = false := by simp
  go_enter Try.func12, Try.ntmps12
  go_wp2
  go_loopw [5] (fun i wr => ∃ k : Nat, k ≤ n ∧ i = .int .i64 k ∧ Below w.heap.size w wr) (fun i _ => n - (intOf i).toNat)
  case atStart => exact ⟨0, Nat.zero_le _, rfl, Below.refl _ _⟩
  case round =>
    obtain ⟨k, hk, rfl, hB⟩ := hrel
    by_cases hlt : k < n
    · have hne : l ≠ [] := fun e => by have := HN.out; rw [e] at this; simp at this; omega
      obtain ⟨b1, rfl, hb1, q1⟩ := (H.out.1.below hB) hne
      obtain ⟨b2, rfl, hb2, q2⟩ := (H.out.2.below hB) hne
      obtain ⟨p1, p2⟩ := q1 k (by rw [HN.out]; exact hlt)
      obtain ⟨r1, r2⟩ := q2 k (by rw [HN.out]; exact hlt)
      generalize (wk l k).t = X at *
      generalize (wk l k).e = Y at *
      clear q1 q2 hne
      have d1 : (k : Int) < (n : Int) := by omega
      have d0 : (0 : Int) ≤ (k : Int) := by omega
      have t2 : (X == X) = true := by simp
      have t3 : (Y == Y) = true := by simp
      go_wp2_with fail
      go_quiet (fail)
      go_wp2
      go_roundw
      case rel => exact ⟨k + 1, by omega, by go_num, hB.trans ⟨rfl, rfl, rfl, Nat.le_refl _, fun _ _ => rfl⟩⟩
      case measure => simp [intOf]; omega
    · go_wp2
      go_ret
      exact ⟨rfl, hB⟩

end Go.Proofs.Ytiookbmffdmdeaa
