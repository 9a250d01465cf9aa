/-
  Rows of numbers one behind the other, and what is left of one where one of them is dropped: plain facts.
-/
import Derived.Test.YtbagkmijnjjmgaaAwake
namespace Go.Proofs.Ytbagkmijnjjmgaa
open Go.RowKit

def upZ : Int → Nat → List Int
  | _, 0 => []
  | s, n + 1 => s :: upZ (s + 1) n
theorem up_len (s : Int) (n : Nat) : (upZ s n).length = n := by
  induction n generalizing s with
  | zero => rfl
  | succ n ih => simp [upZ, ih]
theorem up_mem (s : Int) (n : Nat) (x : Int) : x ∈ upZ s n ↔ s ≤ x ∧ x < s + n := by
  induction n generalizing s with
  | zero => simp only [upZ, List.not_mem_nil, false_iff]; omega
  | succ n ih =>
    simp only [upZ, List.mem_cons, ih]
    omega
theorem up_nodup (s : Int) (n : Nat) : (upZ s n).Nodup := by
  induction n generalizing s with
  | zero => simp [upZ]
  | succ n ih =>
    refine List.nodup_cons.2 ⟨fun h => ?_, ih _⟩
    have := (up_mem _ _ _).1 h
    omega
theorem up_snoc (s : Int) (n : Nat) : upZ s (n + 1) = upZ s n ++ [s + n] := by
  induction n generalizing s with
  | zero => simp [upZ]
  | succ n ih =>
    rw [upZ, ih (s + 1)]
    simp only [upZ, List.cons_append]
    rw [show s + 1 + (n : Int) = s + ((n + 1 : Nat) : Int) by omega]
theorem up_in (s : Int) (n : Nat) (x : Int) : inZ (upZ s n) x = decide (s ≤ x ∧ x < s + n) := by
  cases h : inZ (upZ s n) x
  · have := fun e => inZ_false.1 h ((up_mem s n x).2 e)
    exact (decide_eq_false this).symm
  · exact (decide_eq_true ((up_mem s n x).1 (inZ_true.1 h))).symm
theorem up_ok (n : Nat) : Okz (upZ 1 n) := ⟨up_nodup 1 n, fun x hx => ((up_mem 1 n x).1 hx).1⟩
theorem up_lock (j : Nat) : lockL (upZ 1 j) ((j : Int) + 1) = upZ 1 (j + 1) := by
  have h2 : inZ (upZ 1 j) ((j : Int) + 1) = false := by rw [up_in]; exact decide_eq_false (by omega)
  unfold lockL
  rw [if_neg (by omega), h2, if_neg (by simp), up_snoc]
  congr 2
  omega

theorem up_lock1 {i : Nat} (h : 1 ≤ i) : lockL (upZ 1 (i - 1)) (i : Int) = upZ 1 (i + 1 - 1) := by
  obtain ⟨j, rfl⟩ : ∃ j, i = j + 1 := ⟨i - 1, by omega⟩
  exact up_lock j

/-- What is left of a row where one that waits is dropped. -/
def lft (x : Int) (l : List Int) : List Int := if 1 < x then rmZ l x else l
theorem lft_nil (x : Int) : lft x [] = [] := by unfold lft; split <;> rfl
theorem lft_skip {x : Int} (h : 1 < x) (l : List Int) : lft x (x :: l) = lft x l := by
  unfold lft
  rw [if_pos h, if_pos h]
  show (x :: l).filter _ = _
  rw [List.filter_cons_of_neg (by simp)]
  rfl
theorem lft_cons {x y : Int} (h : ¬ (y = x ∧ 1 < x)) (l : List Int) : lft x (y :: l) = y :: lft x l := by
  unfold lft
  by_cases h1 : 1 < x
  · rw [if_pos h1, if_pos h1]
    have hne : y ≠ x := fun e => h ⟨e, h1⟩
    show (y :: l).filter _ = _
    rw [List.filter_cons_of_pos (by simp [hne])]
    rfl
  · rw [if_neg h1, if_neg h1]
theorem up_drop {K : Nat} {x : Int} (h1 : 1 ≤ x) (h2 : x ≤ K) : dropB (upZ 1 K) x = decide (1 < x) ∧ dropL (upZ 1 K) x = lft x (upZ 1 K) ∧ dropB (lft x (upZ 1 K)) x = false ∧ dropL (lft x (upZ 1 K)) x = lft x (upZ 1 K) := by
  obtain ⟨n, rfl⟩ : ∃ n, K = n + 1 := ⟨K - 1, by omega⟩
  have ht : inZ (upZ (1 + 1) n) x = decide (1 < x) := by
    rw [up_in]
    by_cases h : 1 < x
    · rw [decide_eq_true h]; exact decide_eq_true (by omega)
    · rw [decide_eq_false h]; exact decide_eq_false (by omega)
  by_cases h : 1 < x
  · have e : lft x (upZ 1 (n + 1)) = 1 :: rmZ (upZ (1 + 1) n) x := by
      rw [upZ, lft_cons (by omega)]
      unfold lft
      rw [if_pos h]
    have e2 : inZ (rmZ (upZ (1 + 1) n) x) x = false := in_rm _ _
    refine ⟨ht, e.symm ▸ rfl, ?_, ?_⟩
    · rw [e]; exact e2
    · rw [e]; exact drop_no e2
  · have e : lft x (upZ 1 (n + 1)) = upZ 1 (n + 1) := by unfold lft; rw [if_neg h]
    have hf : dropB (upZ 1 (n + 1)) x = false := by
      show inZ (upZ (1 + 1) n) x = false
      rw [ht]; exact decide_eq_false h
    rw [e]
    exact ⟨ht, drop_no hf, hf, drop_no hf⟩
theorem lft_len (x : Int) (l : List Int) : (lft x l).length ≤ l.length := by
  unfold lft
  split
  · exact rm_len _ _
  · exact Nat.le_refl _
theorem lft_ok {x : Int} {l : List Int} (h : Okz l) : Okz (lft x l) := by
  unfold lft
  split
  · exact ⟨rm_nodup h.nd x, fun y hy => h.pos y (mem_rm.1 hy).1⟩
  · exact h
theorem up_ok1 {s : Int} (h : 1 ≤ s) (n : Nat) : Okz (upZ s n) := ⟨up_nodup s n, fun x hx => by have := ((up_mem s n x).1 hx).1; omega⟩
/-- One that holds it gives it back. -/
theorem cons_un {y : Int} (hy : 1 ≤ y) (l : List Int) : unL (y :: l) y = l ∧ unE (y :: l) y = 0 := by
  have h : has (y :: l) y := ⟨hy, by simp, rfl⟩
  exact ⟨if_pos h, (if_neg (by omega)).trans (if_pos h)⟩

/-- What is left from some place on. -/
def restZ (x : Int) (K i : Nat) : List Int := lft x (upZ (i : Int) (K + 1 - i))
theorem rest_ok {x : Int} {K i : Nat} (h : 1 ≤ i) (hK : K ≤ 20) : Okz (restZ x K i) ∧ (restZ x K i).length ≤ 1000 := by
  refine ⟨lft_ok (up_ok1 (by omega) _), ?_⟩
  have := lft_len x (upZ (i : Int) (K + 1 - i))
  rw [up_len] at this
  unfold restZ
  omega
theorem rest_end {x : Int} {K i : Nat} (h : K < i) : restZ x K i = [] := by
  unfold restZ
  rw [show K + 1 - i = 0 by omega]
  exact lft_nil x
theorem rest_open {K i : Nat} (h : i ≤ K) : upZ (i : Int) (K + 1 - i) = (i : Int) :: upZ ((i + 1 : Nat) : Int) (K + 1 - (i + 1)) := by
  rw [show K + 1 - i = (K + 1 - (i + 1)) + 1 by omega]
  rfl
theorem rest_skip {X K i : Nat} (h : i ≤ K) (he : i = X) (h1 : 1 < X) : restZ (X : Int) K i = restZ (X : Int) K (i + 1) := by
  unfold restZ
  rw [rest_open h, he]
  exact lft_skip (by omega) _
theorem rest_cons {X K i : Nat} (h : i ≤ K) (he : ¬ (i = X ∧ 1 < X)) : restZ (X : Int) K i = (i : Int) :: restZ (X : Int) K (i + 1) := by
  unfold restZ
  rw [rest_open h]
  exact lft_cons (by omega) _

theorem tmod_nat {n : Int} {l : Nat} (h : 0 ≤ n) (hl : 0 < l) : ∃ k : Nat, n.tmod (l : Int) = (k : Int) ∧ k < l := by
  rw [Int.tmod_eq_emod_of_nonneg h]
  have h1 := Int.emod_nonneg n (show (l : Int) ≠ 0 by omega)
  have h2 := Int.emod_lt_of_pos n (show (0 : Int) < l by omega)
  exact ⟨(n % (l : Int)).toNat, by omega, by omega⟩
theorem u8_mod {x : Int} (hx : 0 ≤ x ∧ x ≤ 255) (d : Nat) (hd : 0 < d) (hd2 : d ≤ 200) : ∃ m : Nat, x.tmod (d : Int) = (m : Int) ∧ m < d ∧ IntKind.u8.wrap (m : Int) = (m : Int) ∧ wrap64 (m : Int) = (m : Int) := by
  have h1 := Int.emod_nonneg x (show (d : Int) ≠ 0 by omega)
  have h2 := Int.emod_lt_of_pos x (show (0 : Int) < d by omega)
  obtain ⟨m, hm⟩ : ∃ m : Nat, (m : Int) = x % (d : Int) := ⟨(x % (d : Int)).toNat, by omega⟩
  refine ⟨m, by rw [Int.tmod_eq_emod_of_nonneg (by omega)]; exact hm.symm, by omega, ?_, ?_⟩
  · simp [IntKind.wrap, IntKind.bits, IntKind.signed]; omega
  · unfold wrap64; omega

end Go.Proofs.Ytbagkmijnjjmgaa
