/-
  What policy.number comes to: the number of a text of one to four digits without noughts ahead, and none of any other.
-/
import Derived.Test.YtmhjoomkeidcaaaDoorL3Wide
import Derived.Test.YtmhjoomkeidcaaaDoorRefSmall
namespace Go.Proofs.YtmhjoomkeidcaaaDoor
open Go.RowKit

/-- Digits behind a number. -/
def digs : List UInt8 → Nat → Option Nat
  | [], n => some n
  | b :: t, n => if 48 ≤ b.toNat ∧ b.toNat ≤ 57 then digs t (10 * n + (b.toNat - 48)) else none
/-- Are there one to four signs, and no nought ahead? -/
def formB (l : List UInt8) : Bool := decide (1 ≤ l.length ∧ l.length ≤ 4 ∧ ¬ (1 < l.length ∧ l.head? = some 48))
def numOf (s : ByteArray) : Option Nat := if formB s.data.toList then digs s.data.toList 0 else none

theorem digs_bound : ∀ (l : List UInt8) (n k : Nat), digs l n = some k → k + 1 ≤ (n + 1) * 10 ^ l.length
  | [], n, k, h => by simp only [digs] at h; injection h with h; simp; omega
  | b :: t, n, k, h => by
    simp only [digs] at h
    split at h
    · have := digs_bound t _ k h
      rw [List.length_cons, Nat.pow_succ, Nat.mul_comm (10 ^ t.length) 10, ← Nat.mul_assoc]
      refine Nat.le_trans this (Nat.mul_le_mul_right _ ?_)
      omega
    · cases h
theorem numOf_bound {s : ByteArray} {k : Nat} (h : numOf s = some k) : k ≤ 9999 := by
  unfold numOf at h
  split at h
  · rename_i hf
    have hl := of_decide_eq_true hf
    have := digs_bound _ _ _ h
    have hp : 10 ^ s.data.toList.length ≤ 10 ^ 4 := Nat.pow_le_pow_right (by omega) (by omega)
    omega
  · cases h

theorem decode_high {s : ByteArray} {p : Nat} (h : ¬ (s.get! p).toNat < 128) : 128 ≤ (Utf8.decode s p).1 := by
  rw [L3.decode_decN]
  unfold L3.decN
  rw [if_neg h]
  split
  · split
    · rename_i h1; exact h1
    · decide
  · split
    · split
      · rename_i h1
        simp only [Bool.and_eq_true, decide_eq_true_eq] at h1
        simp only
        omega
      · decide
    · split
      · split
        · rename_i h1
          simp only [Bool.and_eq_true, decide_eq_true_eq] at h1
          simp only
          omega
        · decide
      · decide

/-- At a place of a text: a digit, and the place behind it, or none. -/
theorem digs_step (s : ByteArray) (p n : Nat) (h : p < s.size) :
    (∃ d : Nat, d ≤ 9 ∧ Utf8.decode s p = (48 + d, 1) ∧ digs (s.data.toList.drop p) n = digs (s.data.toList.drop (p + 1)) (10 * n + d))
    ∨ (((Utf8.decode s p).1 < 48 ∨ 57 < (Utf8.decode s p).1) ∧ digs (s.data.toList.drop p) n = none) := by
  have hd := L3.drop_cons h
  by_cases h1 : 48 ≤ (s.get! p).toNat ∧ (s.get! p).toNat ≤ 57
  · left
    refine ⟨(s.get! p).toNat - 48, by omega, ?_, ?_⟩
    · rw [L2.decode_one (by omega)]
      congr 1
      omega
    · rw [hd, digs, if_pos h1]
  · right
    refine ⟨?_, by rw [hd, digs, if_neg h1]⟩
    by_cases h2 : (s.get! p).toNat < 128
    · rw [L2.decode_one h2]; simp only; omega
    · have := decode_high h2; omega

/-- What number hands back. -/
def numV (o : Option Nat) : Value := match o with
  | some n => .tuple #[.int .i64 (n : Int), .bool true]
  | none => .tuple #[.int .i64 0, .bool false]

theorem pow_small {n pos : Nat} (h : n < 10 ^ pos) (hp : pos ≤ 3) : n ≤ 999 := by
  have : 10 ^ pos ≤ 10 ^ 3 := Nat.pow_le_pow_right (by omega) hp
  omega
theorem pow_next {n pos d : Nat} (h : n < 10 ^ pos) (hd : d ≤ 9) : 10 * n + d < 10 ^ (pos + 1) := by
  rw [Nat.pow_succ]; omega

set_option maxHeartbeats 1000000 in
theorem number_long (s : ByteArray) (h : ¬ (1 ≤ s.size ∧ s.size ≤ 4)) (w : World) :
    Calls Tryd.prog 87 #[.string s] w fun e w' => e = .returned (.tuple #[.int .i64 0, .bool false]) ∧ Below w.heap.size w w' := by
  by_cases h1 : (s.size : Int) < 1
  · go_enter Tryd.func87, Tryd.ntmps87
    go_wp2
    go_ret2
    exact ⟨rfl, Below.refl _ _⟩
  · have h2 : (s.size : Int) > 4 := by omega
    go_enter Tryd.func87, Tryd.ntmps87
    go_wp2
    go_ret2
    exact ⟨rfl, Below.refl _ _⟩

set_option maxHeartbeats 1000000 in
theorem number_nought (s : ByteArray) (h : 1 < s.size ∧ s.size ≤ 4) (hk : 0 < s.size) (h0 : (s[0]'hk).toNat = 48) (w : World) :
    Calls Tryd.prog 87 #[.string s] w fun e w' => e = .returned (.tuple #[.int .i64 0, .bool false]) ∧ Below w.heap.size w w' := by
  have h1 : ¬ (s.size : Int) < 1 := by omega
  have h2 : ¬ (s.size : Int) > 4 := by omega
  have h3 : (s.size : Int) > 1 := by omega
  go_enter Tryd.func87, Tryd.ntmps87
  go_wp2
  go_ret2
  exact ⟨rfl, Below.refl _ _⟩

end Go.Proofs.YtmhjoomkeidcaaaDoor
