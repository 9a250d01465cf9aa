/-
  A store of a whole struct, cell by cell.
-/
import Derived.Test.YtiookbmffdmdeaaPut
namespace Go.Proofs.Ytiookbmffdmdeaa
open Go.RowKit

def sets (B : Nat) : Nat → List Value → World → World
  | _, [], w => w
  | i, v :: vs, w => sets B (i + 1) vs (w.setCell ⟨B, i, none⟩ v)
theorem sets_heap (B : Nat) (t : TypeId) : ∀ (vs : List Value) (i : Nat) (w : World) (cs : Array Value), w.heap[B]? = some (.cells cs t (0, 0)) → i + vs.length ≤ cs.size →
    ∃ cs', (sets B i vs w).heap[B]? = some (.cells cs' t (0, 0)) ∧ cs'.size = cs.size ∧ (∀ j, j < vs.length → cs'[i + j]? = vs[j]?) ∧ ∀ j, j < i → cs'[j]? = cs[j]?
  | [], i, w, cs, h, hi => ⟨cs, h, rfl, fun j hj => absurd hj (by simp), fun _ _ => rfl⟩
  | v :: vs, i, w, cs, h, hi => by
    obtain ⟨cs', k1, k2, k3, k4⟩ := sets_heap B t vs (i + 1) (w.setCell ⟨B, i, none⟩ v) (cs.setIfInBounds i v) (Lib.heap_setCell_same h v) (by simp at hi ⊢; omega)
    refine ⟨cs', k1, by rw [k2]; simp, fun j hj => ?_, fun j hj => ?_⟩
    · cases j with
      | zero =>
        have := k4 i (by omega)
        rw [Array.getElem?_setIfInBounds, if_pos rfl, if_pos (by simp at hi; omega)] at this
        simpa using this
      | succ j =>
        have := k3 j (by simpa using hj)
        rw [show i + (j + 1) = i + 1 + j by omega]
        simpa using this
    · rw [k4 j (by omega), Array.getElem?_setIfInBounds, if_neg (by omega)]
theorem sets_turn (B : Nat) : ∀ (vs : List Value) (i : Nat) (a w : World), Turn B a w → Turn B a (sets B i vs w)
  | [], _, _, _, h => h
  | _ :: vs, i, a, _, h => sets_turn B vs (i + 1) a _ (h.set i _)

/-- None are there any more. -/
def noneOf (n : Nat) : List Value := List.replicate 17 (Value.int .i64 0) ++ [.int .i64 (n : Int)]
theorem AtB.clr {w : World} {B n : Nat} {l : List Wk} (h : AtB w B n l) : AtB (sets B 0 (noneOf n) w) B n [] := by
  obtain ⟨cs, h1, h2, _⟩ := h.box
  obtain ⟨cs', k1, k2, k3, _⟩ := sets_heap B 44 (noneOf n) 0 w cs h1 (by rw [h2]; simp [noneOf])
  have hl : (noneOf n).length = 18 := by simp [noneOf]
  refine ⟨cs', k1, by rw [k2, h2], ?_, ?_, fun i hi => ?_⟩
  · have := k3 16 (by omega); simpa [noneOf] using this
  · have := k3 17 (by omega); simpa [noneOf] using this
  · have a := k3 (i * 2) (by omega)
    have b := k3 (i * 2 + 1) (by omega)
    rw [Nat.zero_add] at a b
    rw [a, b]
    constructor
    · rw [noneOf, List.getElem?_append_left (by simp; omega), List.getElem?_replicate, if_pos (by omega)]; rfl
    · rw [noneOf, List.getElem?_append_left (by simp; omega), List.getElem?_replicate, if_pos (by omega)]; rfl

end Go.Proofs.Ytiookbmffdmdeaa
