/-
  What the document's own answer for a rune's width comes to.
-/
import Derived.Test.YtmhjoomkeidcaaaDoorL3Words
namespace Go.Proofs.YtmhjoomkeidcaaaDoor.L3
open Go.RowKit

/-- A byte at a place. -/
theorem byte_at {s : ByteArray} {k : Nat} (hk : k < s.size) : ∃ b, s.data.toList.drop k = b :: s.data.toList.drop (k + 1) ∧ (s[k]'hk).toNat = b.toNat := by
  refine ⟨s.get! k, drop_cons hk, ?_⟩
  have := get_at s k hk
  rw [Nat.add_zero] at this
  rw [this]

theorem wrap_byte {x : Nat} (h : x < 256) : wrap64 (x : Int) = x := by unfold wrap64; omega

theorem conts_short (n lo hi : Nat) (t : List UInt8) (h : t.length < n) : conts n lo hi t = false := by
  cases hc : conts n lo hi t
  · rfl
  · have := conts_length n lo hi t hc; omega

set_option maxHeartbeats 400000 in
theorem wide_empty (s : ByteArray) (w : World) (h : (s.size : Int) = 0) : Calls Tryd.prog 80 #[.string s] w fun e w' => e = .returned (.int .i64 0) ∧ w' = w := by
  go_enter Tryd.func80, Tryd.ntmps80
  go_wp2
  go_ret
  exact ⟨rfl, rfl⟩

set_option maxHeartbeats 400000 in
theorem wide_first (s : ByteArray) (w : World) (hz : 0 < s.size) (a : Nat) (ha : (s[0]'hz).toNat = a) (h : (a : Int) < 128) : Calls Tryd.prog 80 #[.string s] w fun e w' => e = .returned (.int .i64 1) ∧ w' = w := by
  have h0 : ((s.size : Int) == 0) = false := by rw [beq_eq_false_iff_ne]; omega
  have hwa : wrap64 (a : Int) = a := wrap_byte (by rw [← ha]; exact UInt8.toNat_lt _)
  go_enter Tryd.func80, Tryd.ntmps80
  go_wp2
  go_ret
  exact ⟨rfl, rfl⟩

set_option maxHeartbeats 1000000 in
theorem wideC_two (s : ByteArray) (w : World) (hz : 0 < s.size) (a : Nat) (ha : (s[0]'hz).toNat = a) (h1 : 194 ≤ (a : Int)) (h2 : (a : Int) ≤ 223) (t : List UInt8) (ht : s.data.toList.drop 1 = t) (X : Bool) (hX : conts 1 128 191 t = X) :
    Calls Tryd.prog 80 #[.string s] w fun e w' => e = .returned (.int .i64 (if X = true then 2 else 0)) ∧ w' = w := by
  have h0 : ((s.size : Int) == 0) = false := by rw [beq_eq_false_iff_ne]; omega
  have hwa : wrap64 (a : Int) = a := wrap_byte (by rw [← ha]; exact UInt8.toNat_lt _)
  have h128 : ¬ (a : Int) < 128 := by omega
  have h3 : ¬ 224 ≤ (a : Int) := by omega
  have h4 : ¬ 240 ≤ (a : Int) := by omega
  by_cases hlen : (s.size : Int) < 2
  · have hXf : X = false := by
      rw [← hX]
      refine conts_short _ _ _ _ ?_
      rw [← ht, List.length_drop, size_list]
      omega
    subst hXf
    clear hX
    go_enter Tryd.func80, Tryd.ntmps80
    go_wp2
    go_ret
    exact ⟨rfl, rfl⟩
  · have HT : Hid (s.data.toList.drop 1 = t) := ht
    have HX : Hid (conts 1 128 191 t = X) := hX
    clear ht hX
    go_enter Tryd.func80, Tryd.ntmps80
    go_wp2
    go_loop [5, 6, 7] (fun lv hv iv => ∃ (k lo hi : Nat), 1 ≤ k ∧ k ≤ 2 ∧ lv = .int .i64 lo ∧ hv = .int .i64 hi ∧ iv = .int .i64 k ∧ conts (2 - k) lo hi (s.data.toList.drop k) = X) (fun _ _ i => 2 - (intOf i).toNat)
    case atStart => exact ⟨1, 128, 191, by omega, by omega, rfl, rfl, rfl, by rw [HT.out]; exact HX.out⟩
    case round =>
      obtain ⟨k, lo, hi, hk1, hk2, rfl, rfl, rfl, hC⟩ := hrel
      by_cases hkn : (k : Int) < 2
      · have hks : k < s.size := by omega
        obtain ⟨b, hd, hb⟩ := byte_at hks
        obtain ⟨x, hx⟩ : ∃ x, x = b.toNat := ⟨_, rfl⟩
        rw [← hx] at hb
        rw [hd, show 2 - k = (2 - (k + 1)) + 1 by omega] at hC
        simp only [conts] at hC
        rw [← hx] at hC
        have hwx : wrap64 (x : Int) = x := wrap_byte (by rw [hx]; exact UInt8.toNat_lt _)
        clear hx hd
        by_cases h1 : (x : Int) < lo
        · have hXf : X = false := by rw [← hC, show decide (lo ≤ x) = false from decide_eq_false (by omega)]; rfl
          subst hXf
          clear hC HX
          go_wp2
          go_ret
          exact ⟨rfl, rfl⟩
        · by_cases h2 : (x : Int) > hi
          · have hXf : X = false := by rw [← hC, show decide (x ≤ hi) = false from decide_eq_false (by omega), Bool.and_false]; rfl
            subst hXf
            clear hC HX
            go_wp2
            go_ret
            exact ⟨rfl, rfl⟩
          · rw [show decide (lo ≤ x) = true from decide_eq_true (by omega), show decide (x ≤ hi) = true from decide_eq_true (by omega), Bool.true_and, Bool.true_and] at hC
            have HC : Hid (conts (2 - (k + 1)) 128 191 (s.data.toList.drop (k + 1)) = X) := hC
            clear hC
            go_wp2
            go_round
            case rel => exact ⟨k + 1, 128, 191, by omega, by omega, rfl, rfl, by go_num, HC.out⟩
            case measure => simp [intOf]; omega
      · have hXt : X = true := by
          rw [← hC, show 2 - k = 0 by omega]; rfl
        subst hXt
        clear hC HX
        go_wp2
        go_ret
        exact ⟨rfl, rfl⟩

set_option maxHeartbeats 1000000 in
theorem wideC_e0 (s : ByteArray) (w : World) (hz : 0 < s.size) (a : Nat) (ha : (s[0]'hz).toNat = a) (he : a = 224) (t : List UInt8) (ht : s.data.toList.drop 1 = t) (X : Bool) (hX : conts 2 160 191 t = X) :
    Calls Tryd.prog 80 #[.string s] w fun e w' => e = .returned (.int .i64 (if X = true then 3 else 0)) ∧ w' = w := by
  have h0 : ((s.size : Int) == 0) = false := by rw [beq_eq_false_iff_ne]; omega
  have hwa : wrap64 (a : Int) = a := wrap_byte (by rw [← ha]; exact UInt8.toNat_lt _)
  have h128 : ¬ (a : Int) < 128 := by omega
  subst he
  clear hwa
  by_cases hlen : (s.size : Int) < 3
  · have hXf : X = false := by
      rw [← hX]
      refine conts_short _ _ _ _ ?_
      rw [← ht, List.length_drop, size_list]
      omega
    subst hXf
    clear hX
    go_enter Tryd.func80, Tryd.ntmps80
    go_wp2
    go_ret
    exact ⟨rfl, rfl⟩
  · have HT : Hid (s.data.toList.drop 1 = t) := ht
    have HX : Hid (conts 2 160 191 t = X) := hX
    clear ht hX
    go_enter Tryd.func80, Tryd.ntmps80
    go_wp2
    go_loop [5, 6, 7] (fun lv hv iv => ∃ (k lo hi : Nat), 1 ≤ k ∧ k ≤ 3 ∧ lv = .int .i64 lo ∧ hv = .int .i64 hi ∧ iv = .int .i64 k ∧ conts (3 - k) lo hi (s.data.toList.drop k) = X) (fun _ _ i => 3 - (intOf i).toNat)
    case atStart => exact ⟨1, 160, 191, by omega, by omega, rfl, rfl, rfl, by rw [HT.out]; exact HX.out⟩
    case round =>
      obtain ⟨k, lo, hi, hk1, hk2, rfl, rfl, rfl, hC⟩ := hrel
      by_cases hkn : (k : Int) < 3
      · have hks : k < s.size := by omega
        obtain ⟨b, hd, hb⟩ := byte_at hks
        obtain ⟨x, hx⟩ : ∃ x, x = b.toNat := ⟨_, rfl⟩
        rw [← hx] at hb
        rw [hd, show 3 - k = (3 - (k + 1)) + 1 by omega] at hC
        simp only [conts] at hC
        rw [← hx] at hC
        have hwx : wrap64 (x : Int) = x := wrap_byte (by rw [hx]; exact UInt8.toNat_lt _)
        clear hx hd
        by_cases h1 : (x : Int) < lo
        · have hXf : X = false := by rw [← hC, show decide (lo ≤ x) = false from decide_eq_false (by omega)]; rfl
          subst hXf
          clear hC HX
          go_wp2
          go_ret
          exact ⟨rfl, rfl⟩
        · by_cases h2 : (x : Int) > hi
          · have hXf : X = false := by rw [← hC, show decide (x ≤ hi) = false from decide_eq_false (by omega), Bool.and_false]; rfl
            subst hXf
            clear hC HX
            go_wp2
            go_ret
            exact ⟨rfl, rfl⟩
          · rw [show decide (lo ≤ x) = true from decide_eq_true (by omega), show decide (x ≤ hi) = true from decide_eq_true (by omega), Bool.true_and, Bool.true_and] at hC
            have HC : Hid (conts (3 - (k + 1)) 128 191 (s.data.toList.drop (k + 1)) = X) := hC
            clear hC
            go_wp2
            go_round
            case rel => exact ⟨k + 1, 128, 191, by omega, by omega, rfl, rfl, by go_num, HC.out⟩
            case measure => simp [intOf]; omega
      · have hXt : X = true := by
          rw [← hC, show 3 - k = 0 by omega]; rfl
        subst hXt
        clear hC HX
        go_wp2
        go_ret
        exact ⟨rfl, rfl⟩

set_option maxHeartbeats 1000000 in
theorem wideC_ed (s : ByteArray) (w : World) (hz : 0 < s.size) (a : Nat) (ha : (s[0]'hz).toNat = a) (he : a = 237) (t : List UInt8) (ht : s.data.toList.drop 1 = t) (X : Bool) (hX : conts 2 128 159 t = X) :
    Calls Tryd.prog 80 #[.string s] w fun e w' => e = .returned (.int .i64 (if X = true then 3 else 0)) ∧ w' = w := by
  have h0 : ((s.size : Int) == 0) = false := by rw [beq_eq_false_iff_ne]; omega
  have hwa : wrap64 (a : Int) = a := wrap_byte (by rw [← ha]; exact UInt8.toNat_lt _)
  have h128 : ¬ (a : Int) < 128 := by omega
  subst he
  clear hwa
  by_cases hlen : (s.size : Int) < 3
  · have hXf : X = false := by
      rw [← hX]
      refine conts_short _ _ _ _ ?_
      rw [← ht, List.length_drop, size_list]
      omega
    subst hXf
    clear hX
    go_enter Tryd.func80, Tryd.ntmps80
    go_wp2
    go_ret
    exact ⟨rfl, rfl⟩
  · have HT : Hid (s.data.toList.drop 1 = t) := ht
    have HX : Hid (conts 2 128 159 t = X) := hX
    clear ht hX
    go_enter Tryd.func80, Tryd.ntmps80
    go_wp2
    go_loop [5, 6, 7] (fun lv hv iv => ∃ (k lo hi : Nat), 1 ≤ k ∧ k ≤ 3 ∧ lv = .int .i64 lo ∧ hv = .int .i64 hi ∧ iv = .int .i64 k ∧ conts (3 - k) lo hi (s.data.toList.drop k) = X) (fun _ _ i => 3 - (intOf i).toNat)
    case atStart => exact ⟨1, 128, 159, by omega, by omega, rfl, rfl, rfl, by rw [HT.out]; exact HX.out⟩
    case round =>
      obtain ⟨k, lo, hi, hk1, hk2, rfl, rfl, rfl, hC⟩ := hrel
      by_cases hkn : (k : Int) < 3
      · have hks : k < s.size := by omega
        obtain ⟨b, hd, hb⟩ := byte_at hks
        obtain ⟨x, hx⟩ : ∃ x, x = b.toNat := ⟨_, rfl⟩
        rw [← hx] at hb
        rw [hd, show 3 - k = (3 - (k + 1)) + 1 by omega] at hC
        simp only [conts] at hC
        rw [← hx] at hC
        have hwx : wrap64 (x : Int) = x := wrap_byte (by rw [hx]; exact UInt8.toNat_lt _)
        clear hx hd
        by_cases h1 : (x : Int) < lo
        · have hXf : X = false := by rw [← hC, show decide (lo ≤ x) = false from decide_eq_false (by omega)]; rfl
          subst hXf
          clear hC HX
          go_wp2
          go_ret
          exact ⟨rfl, rfl⟩
        · by_cases h2 : (x : Int) > hi
          · have hXf : X = false := by rw [← hC, show decide (x ≤ hi) = false from decide_eq_false (by omega), Bool.and_false]; rfl
            subst hXf
            clear hC HX
            go_wp2
            go_ret
            exact ⟨rfl, rfl⟩
          · rw [show decide (lo ≤ x) = true from decide_eq_true (by omega), show decide (x ≤ hi) = true from decide_eq_true (by omega), Bool.true_and, Bool.true_and] at hC
            have HC : Hid (conts (3 - (k + 1)) 128 191 (s.data.toList.drop (k + 1)) = X) := hC
            clear hC
            go_wp2
            go_round
            case rel => exact ⟨k + 1, 128, 191, by omega, by omega, rfl, rfl, by go_num, HC.out⟩
            case measure => simp [intOf]; omega
      · have hXt : X = true := by
          rw [← hC, show 3 - k = 0 by omega]; rfl
        subst hXt
        clear hC HX
        go_wp2
        go_ret
        exact ⟨rfl, rfl⟩

set_option maxHeartbeats 1000000 in
theorem wideC_three (s : ByteArray) (w : World) (hz : 0 < s.size) (a : Nat) (ha : (s[0]'hz).toNat = a) (h1 : 224 ≤ (a : Int)) (h2 : (a : Int) ≤ 239) (h3 : a ≠ 224) (h4 : a ≠ 237) (t : List UInt8) (ht : s.data.toList.drop 1 = t) (X : Bool) (hX : conts 2 128 191 t = X) :
    Calls Tryd.prog 80 #[.string s] w fun e w' => e = .returned (.int .i64 (if X = true then 3 else 0)) ∧ w' = w := by
  have h0 : ((s.size : Int) == 0) = false := by rw [beq_eq_false_iff_ne]; omega
  have hwa : wrap64 (a : Int) = a := wrap_byte (by rw [← ha]; exact UInt8.toNat_lt _)
  have h128 : ¬ (a : Int) < 128 := by omega
  have h5 : ((a : Int) == 224) = false := by simp; omega
  have h6 : ((a : Int) == 237) = false := by simp; omega
  have h7 : 194 ≤ (a : Int) := by omega
  have h8 : ¬ (a : Int) ≤ 223 := by omega
  have h9 : ¬ 240 ≤ (a : Int) := by omega
  clear h3 h4
  by_cases hlen : (s.size : Int) < 3
  · have hXf : X = false := by
      rw [← hX]
      refine conts_short _ _ _ _ ?_
      rw [← ht, List.length_drop, size_list]
      omega
    subst hXf
    clear hX
    go_enter Tryd.func80, Tryd.ntmps80
    go_wp2
    go_ret
    exact ⟨rfl, rfl⟩
  · have HT : Hid (s.data.toList.drop 1 = t) := ht
    have HX : Hid (conts 2 128 191 t = X) := hX
    clear ht hX
    go_enter Tryd.func80, Tryd.ntmps80
    go_wp2
    go_loop [5, 6, 7] (fun lv hv iv => ∃ (k lo hi : Nat), 1 ≤ k ∧ k ≤ 3 ∧ lv = .int .i64 lo ∧ hv = .int .i64 hi ∧ iv = .int .i64 k ∧ conts (3 - k) lo hi (s.data.toList.drop k) = X) (fun _ _ i => 3 - (intOf i).toNat)
    case atStart => exact ⟨1, 128, 191, by omega, by omega, rfl, rfl, rfl, by rw [HT.out]; exact HX.out⟩
    case round =>
      obtain ⟨k, lo, hi, hk1, hk2, rfl, rfl, rfl, hC⟩ := hrel
      by_cases hkn : (k : Int) < 3
      · have hks : k < s.size := by omega
        obtain ⟨b, hd, hb⟩ := byte_at hks
        obtain ⟨x, hx⟩ : ∃ x, x = b.toNat := ⟨_, rfl⟩
        rw [← hx] at hb
        rw [hd, show 3 - k = (3 - (k + 1)) + 1 by omega] at hC
        simp only [conts] at hC
        rw [← hx] at hC
        have hwx : wrap64 (x : Int) = x := wrap_byte (by rw [hx]; exact UInt8.toNat_lt _)
        clear hx hd
        by_cases h1 : (x : Int) < lo
        · have hXf : X = false := by rw [← hC, show decide (lo ≤ x) = false from decide_eq_false (by omega)]; rfl
          subst hXf
          clear hC HX
          go_wp2
          go_ret
          exact ⟨rfl, rfl⟩
        · by_cases h2 : (x : Int) > hi
          · have hXf : X = false := by rw [← hC, show decide (x ≤ hi) = false from decide_eq_false (by omega), Bool.and_false]; rfl
            subst hXf
            clear hC HX
            go_wp2
            go_ret
            exact ⟨rfl, rfl⟩
          · rw [show decide (lo ≤ x) = true from decide_eq_true (by omega), show decide (x ≤ hi) = true from decide_eq_true (by omega), Bool.true_and, Bool.true_and] at hC
            have HC : Hid (conts (3 - (k + 1)) 128 191 (s.data.toList.drop (k + 1)) = X) := hC
            clear hC
            go_wp2
            go_round
            case rel => exact ⟨k + 1, 128, 191, by omega, by omega, rfl, rfl, by go_num, HC.out⟩
            case measure => simp [intOf]; omega
      · have hXt : X = true := by
          rw [← hC, show 3 - k = 0 by omega]; rfl
        subst hXt
        clear hC HX
        go_wp2
        go_ret
        exact ⟨rfl, rfl⟩

set_option maxHeartbeats 1000000 in
theorem wideC_f0 (s : ByteArray) (w : World) (hz : 0 < s.size) (a : Nat) (ha : (s[0]'hz).toNat = a) (he : a = 240) (t : List UInt8) (ht : s.data.toList.drop 1 = t) (X : Bool) (hX : conts 3 144 191 t = X) :
    Calls Tryd.prog 80 #[.string s] w fun e w' => e = .returned (.int .i64 (if X = true then 4 else 0)) ∧ w' = w := by
  have h0 : ((s.size : Int) == 0) = false := by rw [beq_eq_false_iff_ne]; omega
  have hwa : wrap64 (a : Int) = a := wrap_byte (by rw [← ha]; exact UInt8.toNat_lt _)
  have h128 : ¬ (a : Int) < 128 := by omega
  subst he
  clear hwa
  by_cases hlen : (s.size : Int) < 4
  · have hXf : X = false := by
      rw [← hX]
      refine conts_short _ _ _ _ ?_
      rw [← ht, List.length_drop, size_list]
      omega
    subst hXf
    clear hX
    go_enter Tryd.func80, Tryd.ntmps80
    go_wp2
    go_ret
    exact ⟨rfl, rfl⟩
  · have HT : Hid (s.data.toList.drop 1 = t) := ht
    have HX : Hid (conts 3 144 191 t = X) := hX
    clear ht hX
    go_enter Tryd.func80, Tryd.ntmps80
    go_wp2
    go_loop [5, 6, 7] (fun lv hv iv => ∃ (k lo hi : Nat), 1 ≤ k ∧ k ≤ 4 ∧ lv = .int .i64 lo ∧ hv = .int .i64 hi ∧ iv = .int .i64 k ∧ conts (4 - k) lo hi (s.data.toList.drop k) = X) (fun _ _ i => 4 - (intOf i).toNat)
    case atStart => exact ⟨1, 144, 191, by omega, by omega, rfl, rfl, rfl, by rw [HT.out]; exact HX.out⟩
    case round =>
      obtain ⟨k, lo, hi, hk1, hk2, rfl, rfl, rfl, hC⟩ := hrel
      by_cases hkn : (k : Int) < 4
      · have hks : k < s.size := by omega
        obtain ⟨b, hd, hb⟩ := byte_at hks
        obtain ⟨x, hx⟩ : ∃ x, x = b.toNat := ⟨_, rfl⟩
        rw [← hx] at hb
        rw [hd, show 4 - k = (4 - (k + 1)) + 1 by omega] at hC
        simp only [conts] at hC
        rw [← hx] at hC
        have hwx : wrap64 (x : Int) = x := wrap_byte (by rw [hx]; exact UInt8.toNat_lt _)
        clear hx hd
        by_cases h1 : (x : Int) < lo
        · have hXf : X = false := by rw [← hC, show decide (lo ≤ x) = false from decide_eq_false (by omega)]; rfl
          subst hXf
          clear hC HX
          go_wp2
          go_ret
          exact ⟨rfl, rfl⟩
        · by_cases h2 : (x : Int) > hi
          · have hXf : X = false := by rw [← hC, show decide (x ≤ hi) = false from decide_eq_false (by omega), Bool.and_false]; rfl
            subst hXf
            clear hC HX
            go_wp2
            go_ret
            exact ⟨rfl, rfl⟩
          · rw [show decide (lo ≤ x) = true from decide_eq_true (by omega), show decide (x ≤ hi) = true from decide_eq_true (by omega), Bool.true_and, Bool.true_and] at hC
            have HC : Hid (conts (4 - (k + 1)) 128 191 (s.data.toList.drop (k + 1)) = X) := hC
            clear hC
            go_wp2
            go_round
            case rel => exact ⟨k + 1, 128, 191, by omega, by omega, rfl, rfl, by go_num, HC.out⟩
            case measure => simp [intOf]; omega
      · have hXt : X = true := by
          rw [← hC, show 4 - k = 0 by omega]; rfl
        subst hXt
        clear hC HX
        go_wp2
        go_ret
        exact ⟨rfl, rfl⟩

set_option maxHeartbeats 1000000 in
theorem wideC_f4 (s : ByteArray) (w : World) (hz : 0 < s.size) (a : Nat) (ha : (s[0]'hz).toNat = a) (he : a = 244) (t : List UInt8) (ht : s.data.toList.drop 1 = t) (X : Bool) (hX : conts 3 128 143 t = X) :
    Calls Tryd.prog 80 #[.string s] w fun e w' => e = .returned (.int .i64 (if X = true then 4 else 0)) ∧ w' = w := by
  have h0 : ((s.size : Int) == 0) = false := by rw [beq_eq_false_iff_ne]; omega
  have hwa : wrap64 (a : Int) = a := wrap_byte (by rw [← ha]; exact UInt8.toNat_lt _)
  have h128 : ¬ (a : Int) < 128 := by omega
  subst he
  clear hwa
  by_cases hlen : (s.size : Int) < 4
  · have hXf : X = false := by
      rw [← hX]
      refine conts_short _ _ _ _ ?_
      rw [← ht, List.length_drop, size_list]
      omega
    subst hXf
    clear hX
    go_enter Tryd.func80, Tryd.ntmps80
    go_wp2
    go_ret
    exact ⟨rfl, rfl⟩
  · have HT : Hid (s.data.toList.drop 1 = t) := ht
    have HX : Hid (conts 3 128 143 t = X) := hX
    clear ht hX
    go_enter Tryd.func80, Tryd.ntmps80
    go_wp2
    go_loop [5, 6, 7] (fun lv hv iv => ∃ (k lo hi : Nat), 1 ≤ k ∧ k ≤ 4 ∧ lv = .int .i64 lo ∧ hv = .int .i64 hi ∧ iv = .int .i64 k ∧ conts (4 - k) lo hi (s.data.toList.drop k) = X) (fun _ _ i => 4 - (intOf i).toNat)
    case atStart => exact ⟨1, 128, 143, by omega, by omega, rfl, rfl, rfl, by rw [HT.out]; exact HX.out⟩
    case round =>
      obtain ⟨k, lo, hi, hk1, hk2, rfl, rfl, rfl, hC⟩ := hrel
      by_cases hkn : (k : Int) < 4
      · have hks : k < s.size := by omega
        obtain ⟨b, hd, hb⟩ := byte_at hks
        obtain ⟨x, hx⟩ : ∃ x, x = b.toNat := ⟨_, rfl⟩
        rw [← hx] at hb
        rw [hd, show 4 - k = (4 - (k + 1)) + 1 by omega] at hC
        simp only [conts] at hC
        rw [← hx] at hC
        have hwx : wrap64 (x : Int) = x := wrap_byte (by rw [hx]; exact UInt8.toNat_lt _)
        clear hx hd
        by_cases h1 : (x : Int) < lo
        · have hXf : X = false := by rw [← hC, show decide (lo ≤ x) = false from decide_eq_false (by omega)]; rfl
          subst hXf
          clear hC HX
          go_wp2
          go_ret
          exact ⟨rfl, rfl⟩
        · by_cases h2 : (x : Int) > hi
          · have hXf : X = false := by rw [← hC, show decide (x ≤ hi) = false from decide_eq_false (by omega), Bool.and_false]; rfl
            subst hXf
            clear hC HX
            go_wp2
            go_ret
            exact ⟨rfl, rfl⟩
          · rw [show decide (lo ≤ x) = true from decide_eq_true (by omega), show decide (x ≤ hi) = true from decide_eq_true (by omega), Bool.true_and, Bool.true_and] at hC
            have HC : Hid (conts (4 - (k + 1)) 128 191 (s.data.toList.drop (k + 1)) = X) := hC
            clear hC
            go_wp2
            go_round
            case rel => exact ⟨k + 1, 128, 191, by omega, by omega, rfl, rfl, by go_num, HC.out⟩
            case measure => simp [intOf]; omega
      · have hXt : X = true := by
          rw [← hC, show 4 - k = 0 by omega]; rfl
        subst hXt
        clear hC HX
        go_wp2
        go_ret
        exact ⟨rfl, rfl⟩

set_option maxHeartbeats 1000000 in
theorem wideC_four (s : ByteArray) (w : World) (hz : 0 < s.size) (a : Nat) (ha : (s[0]'hz).toNat = a) (h1 : 240 ≤ (a : Int)) (h2 : (a : Int) ≤ 244) (h3 : a ≠ 240) (h4 : a ≠ 244) (t : List UInt8) (ht : s.data.toList.drop 1 = t) (X : Bool) (hX : conts 3 128 191 t = X) :
    Calls Tryd.prog 80 #[.string s] w fun e w' => e = .returned (.int .i64 (if X = true then 4 else 0)) ∧ w' = w := by
  have h0 : ((s.size : Int) == 0) = false := by rw [beq_eq_false_iff_ne]; omega
  have hwa : wrap64 (a : Int) = a := wrap_byte (by rw [← ha]; exact UInt8.toNat_lt _)
  have h128 : ¬ (a : Int) < 128 := by omega
  have h5 : ((a : Int) == 240) = false := by simp; omega
  have h6 : ((a : Int) == 244) = false := by simp; omega
  have h7 : 194 ≤ (a : Int) := by omega
  have h8 : ¬ (a : Int) ≤ 223 := by omega
  have h9 : 224 ≤ (a : Int) := by omega
  have h10 : ¬ (a : Int) ≤ 239 := by omega
  clear h3 h4
  by_cases hlen : (s.size : Int) < 4
  · have hXf : X = false := by
      rw [← hX]
      refine conts_short _ _ _ _ ?_
      rw [← ht, List.length_drop, size_list]
      omega
    subst hXf
    clear hX
    go_enter Tryd.func80, Tryd.ntmps80
    go_wp2
    go_ret
    exact ⟨rfl, rfl⟩
  · have HT : Hid (s.data.toList.drop 1 = t) := ht
    have HX : Hid (conts 3 128 191 t = X) := hX
    clear ht hX
    go_enter Tryd.func80, Tryd.ntmps80
    go_wp2
    go_loop [5, 6, 7] (fun lv hv iv => ∃ (k lo hi : Nat), 1 ≤ k ∧ k ≤ 4 ∧ lv = .int .i64 lo ∧ hv = .int .i64 hi ∧ iv = .int .i64 k ∧ conts (4 - k) lo hi (s.data.toList.drop k) = X) (fun _ _ i => 4 - (intOf i).toNat)
    case atStart => exact ⟨1, 128, 191, by omega, by omega, rfl, rfl, rfl, by rw [HT.out]; exact HX.out⟩
    case round =>
      obtain ⟨k, lo, hi, hk1, hk2, rfl, rfl, rfl, hC⟩ := hrel
      by_cases hkn : (k : Int) < 4
      · have hks : k < s.size := by omega
        obtain ⟨b, hd, hb⟩ := byte_at hks
        obtain ⟨x, hx⟩ : ∃ x, x = b.toNat := ⟨_, rfl⟩
        rw [← hx] at hb
        rw [hd, show 4 - k = (4 - (k + 1)) + 1 by omega] at hC
        simp only [conts] at hC
        rw [← hx] at hC
        have hwx : wrap64 (x : Int) = x := wrap_byte (by rw [hx]; exact UInt8.toNat_lt _)
        clear hx hd
        by_cases h1 : (x : Int) < lo
        · have hXf : X = false := by rw [← hC, show decide (lo ≤ x) = false from decide_eq_false (by omega)]; rfl
          subst hXf
          clear hC HX
          go_wp2
          go_ret
          exact ⟨rfl, rfl⟩
        · by_cases h2 : (x : Int) > hi
          · have hXf : X = false := by rw [← hC, show decide (x ≤ hi) = false from decide_eq_false (by omega), Bool.and_false]; rfl
            subst hXf
            clear hC HX
            go_wp2
            go_ret
            exact ⟨rfl, rfl⟩
          · rw [show decide (lo ≤ x) = true from decide_eq_true (by omega), show decide (x ≤ hi) = true from decide_eq_true (by omega), Bool.true_and, Bool.true_and] at hC
            have HC : Hid (conts (4 - (k + 1)) 128 191 (s.data.toList.drop (k + 1)) = X) := hC
            clear hC
            go_wp2
            go_round
            case rel => exact ⟨k + 1, 128, 191, by omega, by omega, rfl, rfl, by go_num, HC.out⟩
            case measure => simp [intOf]; omega
      · have hXt : X = true := by
          rw [← hC, show 4 - k = 0 by omega]; rfl
        subst hXt
        clear hC HX
        go_wp2
        go_ret
        exact ⟨rfl, rfl⟩

set_option maxHeartbeats 400000 in
theorem wideC_none (s : ByteArray) (w : World) (hz : 0 < s.size) (a : Nat) (ha : (s[0]'hz).toNat = a) (h128 : ¬ (a : Int) < 128) (h : (a : Int) < 194 ∨ 244 < (a : Int)) :
    Calls Tryd.prog 80 #[.string s] w fun e w' => e = .returned (.int .i64 0) ∧ w' = w := by
  have h0 : ((s.size : Int) == 0) = false := by rw [beq_eq_false_iff_ne]; omega
  have hwa : wrap64 (a : Int) = a := wrap_byte (by rw [← ha]; exact UInt8.toNat_lt _)
  rcases h with h | h
  · have h1 : ¬ 194 ≤ (a : Int) := by omega
    have h2 : ¬ 224 ≤ (a : Int) := by omega
    have h3 : ¬ 240 ≤ (a : Int) := by omega
    go_enter Tryd.func80, Tryd.ntmps80
    go_wp2
    go_ret
    exact ⟨rfl, rfl⟩
  · have h1 : 194 ≤ (a : Int) := by omega
    have h2 : 224 ≤ (a : Int) := by omega
    have h3 : 240 ≤ (a : Int) := by omega
    have h4 : ¬ (a : Int) ≤ 223 := by omega
    have h5 : ¬ (a : Int) ≤ 239 := by omega
    have h6 : ¬ (a : Int) ≤ 244 := by omega
    go_enter Tryd.func80, Tryd.ntmps80
    go_wp2
    go_ret
    exact ⟨rfl, rfl⟩

theorem wide_any (s : ByteArray) (w : World) :
    Calls Tryd.prog 80 #[.string s] w fun e w' => e = .returned (.int .i64 (wide s.data.toList : Nat)) ∧ w' = w := by
  by_cases hz : 0 < s.size
  · obtain ⟨b, hd, hb⟩ := byte_at hz
    rw [List.drop_zero] at hd
    rw [hd]
    obtain ⟨t, ht⟩ : ∃ t, s.data.toList.drop 1 = t := ⟨_, rfl⟩
    rw [Nat.zero_add, ht, wide_cons]
    have hfin : ∀ n lo hi, n ≠ 0 → need b.toNat = (n, lo, hi) → ∀ X, conts (n - 1) lo hi t = X → ((if (need b.toNat).1 ≠ 0 ∧ conts ((need b.toNat).1 - 1) (need b.toNat).2.1 (need b.toNat).2.2 t = true then (need b.toNat).1 else 0 : Nat) : Int) = if X = true then (n : Int) else 0 := by
      intro n lo hi h0 hn X hX
      rw [hn]
      simp only
      rw [hX]
      cases X <;> simp [h0]
    by_cases h1 : b.toNat < 128
    · rw [if_pos h1]; exact wide_first s w hz b.toNat hb (by omega)
    · rw [if_neg h1]
      by_cases h2 : 194 ≤ b.toNat ∧ b.toNat ≤ 223
      · rw [hfin 2 128 191 (by omega) (by unfold need; rw [if_pos h2]) _ rfl]
        exact wideC_two s w hz _ hb (by omega) (by omega) t ht _ rfl
      · by_cases h3 : b.toNat = 224
        · rw [hfin 3 160 191 (by omega) (by rw [h3]; rfl) _ rfl]
          exact wideC_e0 s w hz _ hb h3 t ht _ rfl
        · by_cases h4 : b.toNat = 237
          · rw [hfin 3 128 159 (by omega) (by rw [h4]; rfl) _ rfl]
            exact wideC_ed s w hz _ hb h4 t ht _ rfl
          · by_cases h5 : 224 ≤ b.toNat ∧ b.toNat ≤ 239
            · rw [hfin 3 128 191 (by omega) (by unfold need; rw [if_neg h2, if_neg h3, if_neg h4, if_pos h5]) _ rfl]
              exact wideC_three s w hz _ hb (by omega) (by omega) h3 h4 t ht _ rfl
            · by_cases h6 : b.toNat = 240
              · rw [hfin 4 144 191 (by omega) (by rw [h6]; rfl) _ rfl]
                exact wideC_f0 s w hz _ hb h6 t ht _ rfl
              · by_cases h7 : b.toNat = 244
                · rw [hfin 4 128 143 (by omega) (by rw [h7]; rfl) _ rfl]
                  exact wideC_f4 s w hz _ hb h7 t ht _ rfl
                · by_cases h8 : 240 ≤ b.toNat ∧ b.toNat ≤ 244
                  · rw [hfin 4 128 191 (by omega) (by unfold need; rw [if_neg h2, if_neg h3, if_neg h4, if_neg h5, if_neg h6, if_neg h7, if_pos h8]) _ rfl]
                    exact wideC_four s w hz _ hb (by omega) (by omega) h6 h7 t ht _ rfl
                  · have e : (need b.toNat).1 = 0 := by unfold need; rw [if_neg h2, if_neg h3, if_neg h4, if_neg h5, if_neg h6, if_neg h7, if_neg h8]
                    rw [if_neg (fun hh => hh.1 e)]
                    exact wideC_none s w hz _ hb (by omega) (by omega)
  · have e : s.data.toList = [] := List.length_eq_zero_iff.1 (by rw [size_list]; omega)
    rw [e]
    exact wide_empty s w (by omega)

end Go.Proofs.YtmhjoomkeidcaaaDoor.L3
