/-
  Rows of numbers one behind the other; and what a byte leaves behind a division: plain facts.
-/
import Derived.Test.YtgfkleaekaggoaaAwake
namespace Go.Proofs.Ytgfkleaekaggoaa
open Go.RowKit

def upZ : Int → Nat → List Int
  | _, 0 => []
  | s, n + 1 => s :: upZ (s + 1) n
theorem up_len (s : Int) (n : Nat) : (upZ s n).length = n := by
  induction n generalizing s with
  | zero => rfl
  | succ n ih => simp [upZ, ih]
theorem up_mem (s : Int) (n : Nat) (x : Int) : x ∈ upZ s n ↔ s ≤ x ∧ x < s + n := by
  induction n generalizing s with
  | zero => simp only [upZ, List.not_mem_nil, false_iff]; omega
  | succ n ih =>
    simp only [upZ, List.mem_cons, ih]
    omega
theorem up_nodup (s : Int) (n : Nat) : (upZ s n).Nodup := by
  induction n generalizing s with
  | zero => simp [upZ]
  | succ n ih =>
    refine List.nodup_cons.2 ⟨fun h => ?_, ih _⟩
    have := (up_mem _ _ _).1 h
    omega
theorem up_snoc (s : Int) (n : Nat) : upZ s (n + 1) = upZ s n ++ [s + n] := by
  induction n generalizing s with
  | zero => simp [upZ]
  | succ n ih =>
    rw [upZ, ih (s + 1)]
    simp only [upZ, List.cons_append]
    rw [show s + 1 + (n : Int) = s + ((n + 1 : Nat) : Int) by omega]
theorem up_in (s : Int) (n : Nat) (x : Int) : inZ (upZ s n) x = decide (s ≤ x ∧ x < s + n) := by
  cases h : inZ (upZ s n) x
  · have := fun e => inZ_false.1 h ((up_mem s n x).2 e)
    exact (decide_eq_false this).symm
  · exact (decide_eq_true ((up_mem s n x).1 (inZ_true.1 h))).symm
theorem up_out {s : Int} {n : Nat} {x : Int} (h : x < s ∨ s + n ≤ x) : inZ (upZ s n) x = false := by
  rw [up_in]
  exact decide_eq_false (by omega)
theorem up_rm (s : Int) (n : Nat) : rmZ (upZ s (n + 1)) s = upZ (s + 1) n := by
  show (s :: upZ (s + 1) n).filter _ = _
  rw [List.filter_cons_of_neg (by simp)]
  exact rm_none (up_out (by omega))
theorem u8_mod {x : Int} (hx : 0 ≤ x ∧ x ≤ 255) (d : Nat) (hd : 0 < d) (hd2 : d ≤ 200) : ∃ m : Nat, x.tmod (d : Int) = (m : Int) ∧ m < d ∧ IntKind.u8.wrap (m : Int) = (m : Int) ∧ wrap64 (m : Int) = (m : Int) := by
  have h1 := Int.emod_nonneg x (show (d : Int) ≠ 0 by omega)
  have h2 := Int.emod_lt_of_pos x (show (0 : Int) < d by omega)
  obtain ⟨m, hm⟩ : ∃ m : Nat, (m : Int) = x % (d : Int) := ⟨(x % (d : Int)).toNat, by omega⟩
  refine ⟨m, by rw [Int.tmod_eq_emod_of_nonneg (by omega)]; exact hm.symm, by omega, ?_, ?_⟩
  · simp [IntKind.wrap, IntKind.bits, IntKind.signed]; omega
  · unfold wrap64; omega
theorem twelve {m : Nat} (h : m < 12) : m = 0 ∨ m = 1 ∨ m = 2 ∨ m = 3 ∨ m = 4 ∨ m = 5 ∨ m = 6 ∨ m = 7 ∨ m = 8 ∨ m = 9 ∨ m = 10 ∨ m = 11 := by omega

end Go.Proofs.Ytgfkleaekaggoaa
