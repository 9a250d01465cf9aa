/-
  SignCats, the law's walk: which sign is whose, of any number, and each category has one.
-/
import Derived.Test.YtdfiepmpknbffaaDoorAwake
namespace Go.Proofs.YtdfiepmpknbffaaDoor
open Go.RowKit

theorem five_of (k : Nat) (h : k < 16) : (textB 0 (2 ^ k)).size = 5 := by
  have : ∀ k : Fin 16, (textB 0 (2 ^ k.val)).size = 5 := by decide
  exact this ⟨k, h⟩

set_option maxHeartbeats 1000000 in
theorem cats_walk (r : Int) (n : Nat) (h0 : -2147483648 ≤ r) (h1 : r ≤ 2147483647) (hn : n < 256) (w : World) :
    Calls Tryd.prog 8 #[.int .i32 r, .int .u8 n] w fun e w' => e = .returned (.bool true) ∧ Below w.heap.size w w' := by
  obtain ⟨k, hk⟩ : ∃ k : Nat, k = n % 16 := ⟨_, rfl⟩
  have hk16 : k < 16 := by omega
  have hkn : (n : Int) % 16 = k := by omega
  have h5 := five_of k hk16
  have hlt : 2 ^ k < 65536 := Nat.pow_lt_pow_right (a := 2) (m := k) (n := 16) (by omega) hk16
  have hP : ∀ w, Calls Tryd.prog 12 #[.agg #[.int .i64 0, .int .i64 ((2 : Int) ^ k)]] w fun e w' => e = .returned (.tuple #[.string (textB 0 (2 ^ k)), .int .i64 0]) ∧ Below w.heap.size w w' := fun w => by
    have := print_yes 0 (2 ^ k) (by omega) hlt w
    rw [show ((2 ^ k : Nat) : Int) = (2 : Int) ^ k by simp] at this
    exact this
  obtain ⟨t, ht⟩ : ∃ t, t = textB 0 (2 ^ k) := ⟨_, rfl⟩
  rw [← ht] at hP h5
  have hw := wrap_pow k hk16
  have hc2 : catOf (945 + (k : Int)) = k := by unfold catOf; rw [if_pos (by omega)]; omega
  clear ht hk hlt
  by_cases ha : 945 ≤ r
  · by_cases hb : r ≤ 960
    · have hc1 : catOf r = r - 945 := by unfold catOf; rw [if_pos (by omega)]
      go_enter Tryd.func8, Tryd.ntmps8
      go_wp2_with fail
      refine (hP _).mono ?_
      rintro e w1 ⟨rfl, hB⟩
      go_wp2_with fail
      refine (awake_any _).mono ?_
      rintro e w2 ⟨rfl, hb⟩
      replace hB := below_next hB hb
      clear hb
      go_wp2_with fail
      refine (cat_any _ h0 h1 _).mono ?_
      rintro e w3 ⟨rfl, rfl⟩
      rw [hc1]
      go_wp2_with fail
      refine (cat_any _ (by omega) (by omega) _).mono ?_
      rintro e w4 ⟨rfl, rfl⟩
      rw [hc2]
      go_wp2
      go_ret
      exact ⟨rfl, hB⟩
    · have hc1 : catOf r = -1 := by unfold catOf; rw [if_neg (by omega)]
      go_enter Tryd.func8, Tryd.ntmps8
      go_wp2_with fail
      refine (hP _).mono ?_
      rintro e w1 ⟨rfl, hB⟩
      go_wp2_with fail
      refine (awake_any _).mono ?_
      rintro e w2 ⟨rfl, hb⟩
      replace hB := below_next hB hb
      clear hb
      go_wp2_with fail
      refine (cat_any _ h0 h1 _).mono ?_
      rintro e w3 ⟨rfl, rfl⟩
      rw [hc1]
      go_wp2_with fail
      refine (cat_any _ (by omega) (by omega) _).mono ?_
      rintro e w4 ⟨rfl, rfl⟩
      rw [hc2]
      go_wp2
      go_ret
      exact ⟨rfl, hB⟩
  · have hc1 : catOf r = -1 := by unfold catOf; rw [if_neg (by omega)]
    go_enter Tryd.func8, Tryd.ntmps8
    go_wp2_with fail
    refine (hP _).mono ?_
    rintro e w1 ⟨rfl, hB⟩
    go_wp2_with fail
    refine (awake_any _).mono ?_
    rintro e w2 ⟨rfl, hb⟩
    replace hB := below_next hB hb
    clear hb
    go_wp2_with fail
    refine (cat_any _ h0 h1 _).mono ?_
    rintro e w3 ⟨rfl, rfl⟩
    rw [hc1]
    go_wp2_with fail
    refine (cat_any _ (by omega) (by omega) _).mono ?_
    rintro e w4 ⟨rfl, rfl⟩
    rw [hc2]
    go_wp2
    go_ret
    exact ⟨rfl, hB⟩

end Go.Proofs.YtdfiepmpknbffaaDoor
