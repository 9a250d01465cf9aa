/-
  Plain facts on lists: what is looked for in order, in a longer list that is in the same order, is found.
-/
import Derived.Test.YtkecnjahknjblaaInts
namespace Go.Proofs.Ytkecnjahknjblaa
open Go.RowKit

/-- How many of the first j of m meet P. -/
def cnt (m : List Nat) (P : Nat → Bool) (j : Nat) : Nat := ((m.take j).filter P).length

theorem cnt_zero (m : List Nat) (P : Nat → Bool) : cnt m P 0 = 0 := by simp [cnt]
theorem cnt_all (m : List Nat) (P : Nat → Bool) : cnt m P m.length = (m.filter P).length := by simp [cnt]
theorem cnt_le (m : List Nat) (P : Nat → Bool) (j : Nat) : cnt m P j ≤ (m.filter P).length := by
  have h : m = m.take j ++ m.drop j := (List.take_append_drop j m).symm
  have e : (m.filter P).length = ((m.take j).filter P).length + ((m.drop j).filter P).length := by
    conv => lhs; rw [h]
    rw [List.filter_append, List.length_append]
  unfold cnt; omega
theorem take_next (m : List Nat) (j : Nat) (h : j < m.length) : m.take (j + 1) = m.take j ++ [m.getD j 0] := by
  rw [List.take_add_one]
  simp [h]
theorem cnt_yes {m : List Nat} {P : Nat → Bool} {j : Nat} (h : j < m.length) (hp : P (m.getD j 0) = true) : cnt m P (j + 1) = cnt m P j + 1 := by
  unfold cnt
  rw [take_next m j h, List.filter_append, List.length_append]
  simp only [List.filter_cons, hp, if_true, List.filter_nil, List.length_cons, List.length_nil]
theorem cnt_no {m : List Nat} {P : Nat → Bool} {j : Nat} (h : j < m.length) (hp : P (m.getD j 0) = false) : cnt m P (j + 1) = cnt m P j := by
  unfold cnt
  rw [take_next m j h, List.filter_append, List.length_append]
  simp only [List.filter_cons, hp, Bool.false_eq_true, if_false, List.filter_nil, List.length_nil, Nat.add_zero]
theorem found {m : List Nat} {P : Nat → Bool} {j : Nat} (h : j < m.length) (hp : P (m.getD j 0) = true) : (m.filter P).getD (cnt m P j) 0 = m.getD j 0 := by
  have e : m = m.take j ++ (m.getD j 0 :: m.drop (j + 1)) := by
    have h1 : m.drop j = m.getD j 0 :: m.drop (j + 1) := by
      rw [List.drop_eq_getElem_cons h]; simp [h]
    rw [← h1, List.take_append_drop]
  have e2 : m.filter P = (m.take j).filter P ++ (m.getD j 0 :: (m.drop (j + 1)).filter P) := by
    conv => lhs; rw [e]
    rw [List.filter_append, List.filter_cons, if_pos hp]
  rw [e2]
  unfold cnt
  rw [List.getD_eq_getElem?_getD, List.getElem?_append_right (Nat.le_refl _)]
  simp
theorem not_found {m : List Nat} {P : Nat → Bool} {j i : Nat} (hp : P (m.getD j 0) = false) (hi : i < (m.filter P).length) : (m.filter P).getD i 0 ≠ m.getD j 0 := by
  intro e
  have h1 : (m.filter P).getD i 0 ∈ m.filter P := by
    rw [List.getD_eq_getElem?_getD, List.getElem?_eq_getElem hi]
    exact List.getElem_mem hi
  have h2 := (List.mem_filter.1 h1).2
  rw [e, hp] at h2
  cases h2

theorem filter_both (l : List Nat) (P Q : Nat → Bool) (h : ∀ i, P i = true → Q i = true) : (l.filter Q).filter P = l.filter P := by
  rw [List.filter_filter]
  congr 1
  funext i
  cases hp : P i
  · rfl
  · rw [h i hp]; rfl

theorem pl_both (ls : List (Int × Int)) (al ac jl jc : Int) (k : Nat) (h : ∀ i, flowsAt ls al ac i = true → flowsAt ls jl jc i = true) : (pl ls jl jc k).filter (flowsAt ls al ac) = pl ls al ac k :=
  filter_both _ _ _ h

theorem flows_join (ls : List (Int × Int)) (al ac bl bc : Int) (i : Nat) (h : flowsAt ls al ac i = true) : flowsAt ls (max al bl) (bits .or .i64 ac bc) i = true := by
  unfold flowsAt at *
  rw [leqB_iff, sub_iff] at *
  exact ⟨by omega, fun n hn x => by rw [bt_or, h.2 n hn x]; rfl⟩

end Go.Proofs.Ytkecnjahknjblaa
