/-
  The document's own joining of categories, bit by bit, gives what the operators give.
-/
import Derived.Test.YtkecnjahknjblaaAwake
namespace Go.Proofs.Ytkecnjahknjblaa
open Go.RowKit

/-- The first k bits of v. -/
def lowN (v : BitVec 64) (k : Nat) : Nat := v.toNat % 2 ^ k

theorem wrap_u64' (n : Int) : IntKind.u64.wrap n = n % 18446744073709551616 := by simp [IntKind.wrap, IntKind.bits, IntKind.signed]

theorem low_same {v : BitVec 64} {k : Nat} (h : v.getLsbD k = false) : lowN v (k + 1) = lowN v k := by
  unfold lowN; rw [mod_step, h]; simp
theorem low_more {v : BitVec 64} {k : Nat} (hk : k < 64) (h : v.getLsbD k = true) : IntKind.u64.wrap ((lowN v k : Int) + IntKind.u64.wrap (2 ^ k)) = ((lowN v (k + 1) : Nat) : Int) := by
  have e : lowN v (k + 1) = lowN v k + 2 ^ k := by unfold lowN; rw [mod_step, h]; simp
  have h64 : 2 ^ 64 ≤ 18446744073709551616 := by decide
  have hp : 2 ^ k < 18446744073709551616 := Nat.lt_of_lt_of_le (Nat.pow_lt_pow_right (by omega) hk) h64
  have hl : lowN v (k + 1) < 18446744073709551616 := by
    unfold lowN
    exact Nat.lt_of_lt_of_le (Nat.lt_of_le_of_lt (Nat.mod_le _ _) v.isLt) h64
  rw [show (2 : Int) ^ k = ((2 ^ k : Nat) : Int) by simp]
  rw [e] at hl ⊢
  generalize 2 ^ k = z at *
  generalize lowN v k = y at *
  rw [wrap_u64', wrap_u64']
  omega
theorem wrap64_V (v : BitVec 64) : wrap64 v.toNat = v.toInt := by
  unfold wrap64
  rw [← IntKind.wrap_i64]
  exact wrap_V v
theorem low_zero (v : BitVec 64) : lowN v 0 = 0 := by unfold lowN; simp [Nat.mod_one]
theorem low_all (v : BitVec 64) : lowN v 64 = v.toNat := mod_all v

set_option maxHeartbeats 1000000 in
theorem put_walk (a b : Int) (both : Bool) (w : World) (v : BitVec 64) (hv : ∀ n, n < 64 → v.getLsbD n = (bt a n && bt b n || !both && (bt a n || bt b n))) :
    Calls Try.prog 21 #[.int .i64 a, .int .i64 b, .bool both] w fun e w' => e = .returned (.int .i64 v.toInt) ∧ w' = w := by
  have HV : Hid (∀ n, n < 64 → v.getLsbD n = (bt a n && bt b n || !both && (bt a n || bt b n))) := hv
  clear hv
  go_enter Try.func21, Try.ntmps21
  go_wp2
  go_loop [7, 8] (fun o i => ∃ k : Nat, k ≤ 64 ∧ i = .int .i64 k ∧ o = .int .u64 ((lowN v k : Nat) : Int)) (fun _ i => 64 - (intOf i).toNat)
  case atStart => exact ⟨0, by omega, rfl, by rw [low_zero]; rfl⟩
  case round =>
    obtain ⟨k, hk, rfl, rfl⟩ := hrel
    by_cases hlt : k < 64
    · have HB := HV.out k hlt
      cases ha : bt a k <;> cases hb : bt b k <;> cases both
      all_goals
        rw [ha, hb] at HB
        have HS : Hid (v.getLsbD k = _) := HB
        clear HB
        go_wp2_with (go_at_call 20; refine (bit_any _ _ (by omega) _).mono ?_; rintro e w' ⟨rfl, rfl⟩)
        go_round
        case measure => simp [intOf]; omega
        case rel => exact ⟨k + 1, by omega, by go_num, by first | rw [low_same HS.out] | rw [low_more hlt HS.out]⟩
    · go_wp2
      go_ret
      obtain rfl : k = 64 := by omega
      exact ⟨ret_int (by rw [low_all]; exact wrap64_V v), rfl⟩

theorem put_or (a b : Int) (w : World) :
    Calls Try.prog 21 #[.int .i64 a, .int .i64 b, .bool false] w fun e w' => e = .returned (.int .i64 (bits .or .i64 a b)) ∧ w' = w := by
  rw [or_eq]
  refine put_walk a b false w _ fun n hn => ?_
  unfold bt
  simp only [BitVec.getLsbD_or]
  cases (V a).getLsbD n <;> cases (V b).getLsbD n <;> rfl
theorem put_and (a b : Int) (w : World) :
    Calls Try.prog 21 #[.int .i64 a, .int .i64 b, .bool true] w fun e w' => e = .returned (.int .i64 (bits .and .i64 a b)) ∧ w' = w := by
  rw [and_eq]
  refine put_walk a b true w _ fun n hn => ?_
  unfold bt
  simp only [BitVec.getLsbD_and]
  cases (V a).getLsbD n <;> cases (V b).getLsbD n <;> rfl

end Go.Proofs.Ytkecnjahknjblaa
