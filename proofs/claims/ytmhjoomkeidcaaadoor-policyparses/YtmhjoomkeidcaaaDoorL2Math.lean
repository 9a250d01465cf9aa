/-
  Plain facts on the bits of 64-bit integers: what is tested bit by bit against what the operators give.
-/
import Derived.Laws.BitsAllLaws
import Derived.WalkKit
namespace Go.Proofs.YtmhjoomkeidcaaaDoor.L2
open Go.RowKit

/-- A number's 64 bits. -/
def V (x : Int) : BitVec 64 := BitVec.ofInt 64 x
/-- Bit n of a number. -/
def bt (x : Int) (n : Nat) : Bool := (V x).getLsbD n

theorem V_toNat (x : Int) : ((V x).toNat : Int) = x % 18446744073709551616 := by
  unfold V
  rw [BitVec.toNat_ofInt]
  omega

theorem wrap_V (v : BitVec 64) : IntKind.i64.wrap v.toNat = v.toInt := by
  rw [BitVec.toInt_eq_toNat_bmod]
  simp [IntKind.wrap, IntKind.bits, IntKind.signed, Int.bmod]
  omega

theorem V_toInt (v : BitVec 64) : V v.toInt = v := by unfold V; exact BitVec.ofInt_toInt

theorem or_eq (a b : Int) : bits .or .i64 a b = (V a ||| V b).toInt := by
  rw [← wrap_V]; rfl
theorem and_eq (a b : Int) : bits .and .i64 a b = (V a &&& V b).toInt := by
  rw [← wrap_V]; rfl
theorem andNot_eq (a b : Int) : bits .andNot .i64 a b = (V a &&& ~~~(V b)).toInt := by
  rw [← wrap_V]; rfl

theorem V_or (a b : Int) : V (bits .or .i64 a b) = V a ||| V b := by rw [or_eq, V_toInt]
theorem V_and (a b : Int) : V (bits .and .i64 a b) = V a &&& V b := by rw [and_eq, V_toInt]

/-- A number of 64 bits with its sign. -/
def In64 (x : Int) : Prop := -9223372036854775808 ≤ x ∧ x < 9223372036854775808

theorem toInt_V (x : Int) (h : In64 x) : (V x).toInt = x := by
  unfold V In64 at *
  rw [BitVec.toInt_ofInt]
  simp [Int.bmod]
  omega

theorem V_inj (x y : Int) (hx : In64 x) (hy : In64 y) (h : V x = V y) : x = y := by
  rw [← toInt_V x hx, ← toInt_V y hy, h]

theorem toInt_in (v : BitVec 64) : In64 v.toInt := by
  unfold In64
  have h1 := BitVec.le_toInt v
  have h2 := BitVec.toInt_lt (x := v)
  omega

theorem or_in (a b : Int) : In64 (bits .or .i64 a b) := by rw [or_eq]; exact toInt_in _
theorem and_in (a b : Int) : In64 (bits .and .i64 a b) := by rw [and_eq]; exact toInt_in _

theorem toInt_zero (v : BitVec 64) : v.toInt = 0 ↔ v = 0#64 := by
  constructor
  · intro h; rw [← V_toInt v, h]; rfl
  · intro h; rw [h]; rfl

/-- b has each category of a. -/
def sub (a b : Int) : Bool := V a &&& ~~~(V b) == 0#64

theorem andNot_zero (a b : Int) : (bits .andNot .i64 a b == 0) = sub a b := by
  rw [andNot_eq, sub, Bool.eq_iff_iff, beq_iff_eq, beq_iff_eq, toInt_zero]

theorem sub_iff (a b : Int) : sub a b = true ↔ ∀ n, n < 64 → bt a n = true → bt b n = true := by
  unfold sub bt
  rw [beq_iff_eq]
  constructor
  · intro h n hn ha
    have := congrArg (fun v => BitVec.getLsbD v n) h
    simp only [BitVec.getLsbD_and, BitVec.getLsbD_not, hn, decide_true, Bool.true_and, ha, BitVec.getLsbD_zero] at this
    simpa only [Bool.not_eq_false'] using this
  · intro h
    apply BitVec.eq_of_getLsbD_eq
    intro n hn
    have := h n hn
    simp only [BitVec.getLsbD_and, BitVec.getLsbD_not, hn, decide_true, Bool.true_and, BitVec.getLsbD_zero]
    cases h1 : (V a).getLsbD n
    · rfl
    · rw [this h1]; rfl

theorem sub_refl (a : Int) : sub a a = true := by rw [sub_iff]; intro n _ h; exact h
theorem sub_trans (a b c : Int) (h : sub a b = true) (k : sub b c = true) : sub a c = true := by
  rw [sub_iff] at *; intro n hn ha; exact k n hn (h n hn ha)
theorem sub_anti (a b : Int) (ha : In64 a) (hb : In64 b) (h : sub a b = true) (k : sub b a = true) : a = b := by
  rw [sub_iff] at *
  apply V_inj a b ha hb
  apply BitVec.eq_of_getLsbD_eq
  intro n hn
  have h1 := h n hn
  have h2 := k n hn
  unfold bt at *
  rw [Bool.eq_iff_iff]
  exact ⟨h1, h2⟩

theorem bt_or (a b : Int) (n : Nat) : bt (bits .or .i64 a b) n = (bt a n || bt b n) := by
  unfold bt; rw [V_or]; simp
theorem bt_and (a b : Int) (n : Nat) : bt (bits .and .i64 a b) n = (bt a n && bt b n) := by
  unfold bt; rw [V_and]; simp

theorem bt_ext (a b : Int) (ha : In64 a) (hb : In64 b) (h : ∀ n, n < 64 → bt a n = bt b n) : a = b := by
  apply V_inj a b ha hb
  apply BitVec.eq_of_getLsbD_eq
  intro n hn
  exact h n hn

/-- The document's test of a bit, as the walk writes it. -/
theorem bit_walk (x : Int) (n : Nat) : (bits BinOp.and IntKind.u64 (IntKind.u64.wrap x / 2 ^ n) 1 == 1) = bt x n := by
  have e : IntKind.u64.wrap x = ((V x).toNat : Int) := by
    rw [V_toNat]; simp [IntKind.wrap, IntKind.bits, IntKind.signed]
  have e2 : ((V x).toNat : Int) / 2 ^ n = (((V x).toNat / 2 ^ n : Nat) : Int) := by
    rw [Int.natCast_ediv]; simp
  have hlt : (V x).toNat / 2 ^ n < 18446744073709551616 := by
    have h1 := (V x).isLt
    have h2 := Nat.div_le_self (V x).toNat (2 ^ n)
    omega
  rw [e, e2]
  have e3 := u64_and_nat ((V x).toNat / 2 ^ n) 1 hlt (by omega)
  have e4 : (((1 : Nat) : Int)) = 1 := rfl
  rw [e4] at e3
  rw [e3, nat_mask1]
  unfold bt
  rw [← BitVec.testBit_toNat, Nat.testBit_eq_decide_div_mod_eq, Bool.eq_iff_iff]
  simp
  omega

/-- What is put together of the first k bits of v. -/
theorem mod_step (v : BitVec 64) (k : Nat) : v.toNat % 2 ^ (k + 1) = v.toNat % 2 ^ k + if v.getLsbD k = true then 2 ^ k else 0 := by
  rw [Nat.mod_pow_succ, ← BitVec.testBit_toNat, Nat.testBit_eq_decide_div_mod_eq]
  have h : v.toNat / 2 ^ k % 2 < 2 := Nat.mod_lt _ (by omega)
  by_cases e : v.toNat / 2 ^ k % 2 = 1
  · simp [e]
  · have e0 : v.toNat / 2 ^ k % 2 = 0 := by omega
    simp [e0]

theorem mod_all (v : BitVec 64) : v.toNat % 2 ^ 64 = v.toNat := Nat.mod_eq_of_lt v.isLt

/-- No bit from 16 on: just the numbers from 0 to 65535. -/
theorem low_iff (c : Int) (hc : In64 c) : (∀ n, 16 ≤ n → n < 64 → bt c n = false) ↔ (0 ≤ c ∧ c < 65536) := by
  have hv := V_toNat c
  have hl := (V c).isLt
  unfold In64 at hc
  constructor
  · intro h
    have h2 : (V c).toNat < 2 ^ 16 := by
      apply Nat.lt_pow_two_of_testBit
      intro n hn
      by_cases hn2 : n < 64
      · rw [BitVec.testBit_toNat]; exact h n hn hn2
      · exact Nat.testBit_lt_two_pow (Nat.lt_of_lt_of_le hl (Nat.pow_le_pow_right (by omega) (by omega)))
    omega
  · intro h n hn _
    unfold bt
    rw [← BitVec.testBit_toNat]
    apply Nat.testBit_lt_two_pow
    have h2 : (V c).toNat < 2 ^ 16 := by omega
    exact Nat.lt_of_lt_of_le h2 (Nat.pow_le_pow_right (by omega) hn)

end Go.Proofs.YtmhjoomkeidcaaaDoor.L2
