/-
  The walk of the law LexTwo, way by way.
-/
import Derived.Test.YtnjhjjbdihbjbaaTwo
namespace Go.Proofs.Ytnjhjjbdihbjbaa
open Go.RowKit

theorem join_list (a b : ByteArray) : (a ++ (⟨#[10]⟩ : ByteArray) ++ b).data.toList = a.data.toList ++ 10 :: b.data.toList := by
  rw [ba_append, ba_append]
  simp

set_option maxHeartbeats 1000000 in
theorem two_over (a b : ByteArray) (h : (a.size : Int) + b.size > 4000) (ha : a.size ≤ 140737488351232) (hb : b.size ≤ 140737488351232) (w : World) :
    Calls Try.prog 4 #[.string a, .string b] w fun e w' => e = .returned (.bool true) ∧ Below w.heap.size w w' := by
  go_enter Try.func4, Try.ntmps4
  go_wp2_with fail
  refine (awake_any _).mono ?_
  rintro e w1 ⟨rfl, hB⟩
  go_wp2
  go_ret
  exact ⟨rfl, hB⟩

set_option maxHeartbeats 1000000 in
theorem two_first (a b : ByteArray) (h : ¬ (a.size : Int) + b.size > 4000) (p q p' q' : Nat) (hA : ansOf a.data.toList = ⟨[], 2, p, q⟩) (hZ : ansOf (a.data.toList ++ 10 :: b.data.toList) = ⟨[], 2, p', q'⟩) (w : World) :
    Calls Try.prog 4 #[.string a, .string b] w fun e w' => e = .returned (.bool true) ∧ Below w.heap.size w w' := by
  have H1 := fun w => words_any a w
  have H2 := fun w => words_any b w
  have H3 := fun w => words_any (a ++ (⟨#[10]⟩ : ByteArray) ++ b) w
  rw [hA] at H1
  rw [join_list, hZ] at H3
  generalize ansOf b.data.toList = B at H2
  obtain ⟨LB, EB, PB, QB⟩ := B
  clear hA hZ
  go_enter Try.func4, Try.ntmps4
  go_wp2_with fail
  refine (H1 _).mono ?_
  rintro e w1 ⟨v1, rfl, hO1, hB1⟩
  go_wp2_with fail
  refine (H2 _).mono ?_
  rintro e w2 ⟨v2, rfl, hO2, hB2⟩
  go_wp2_with fail
  refine (H3 _).mono ?_
  rintro e w3 ⟨v3, rfl, hO3, hB3⟩
  obtain ⟨a3, c3, rfl, _, _⟩ := hO3.row
  have hB4 := below_next (below_next hB1 hB2) hB3
  clear hO1 hO2 hO3 hB1 hB2 hB3
  go_wp2_with fail
  refine (awake_any _).mono ?_
  rintro e w4 ⟨rfl, hB5⟩
  have hB6 := below_next hB4 hB5
  go_wp2
  go_ret
  exact ⟨rfl, hB6⟩

theorem count_next (l : List UInt8) (k : Nat) (b : UInt8) (hd : l.drop k = b :: l.drop (k + 1)) : (l.take (k + 1)).count 10 = (l.take k).count 10 + (if b = 10 then 1 else 0) := by
  rw [List.take_add, hd, List.count_append]
  congr 1
  show [b].count 10 = _
  rw [List.count_singleton]
  simp
theorem count_le (l : List UInt8) (k : Nat) : (l.take k).count 10 ≤ k := by
  have h1 := List.count_le_length (a := (10 : UInt8)) (l := l.take k)
  have h2 := List.length_take (i := k) (l := l)
  omega

set_option maxHeartbeats 1000000 in
theorem two_second (a b : ByteArray) (h : ¬ (a.size : Int) + b.size > 4000) (WA : List Wd) (p q : Nat) (hp : p ≤ 5000) (hA : ansOf a.data.toList = ⟨WA, 0, 0, 0⟩) (hb : ansOf b.data.toList = ⟨[], 2, p, q⟩) (hZ : ansOf (a.data.toList ++ 10 :: b.data.toList) = ⟨[], 2, p + (1 + a.data.toList.count 10), q⟩) (w : World) :
    Calls Try.prog 4 #[.string a, .string b] w fun e w' => e = .returned (.bool true) ∧ Below w.heap.size w w' := by
  have H1 := fun w => words_any a w
  have H2 := fun w => words_any b w
  have H3 := fun w => words_any (a ++ (⟨#[10]⟩ : ByteArray) ++ b) w
  rw [hA] at H1
  rw [hb] at H2
  rw [join_list, hZ] at H3
  clear hA hZ hb
  obtain ⟨C, hC⟩ : ∃ C, a.data.toList.count 10 = C := ⟨_, rfl⟩
  rw [hC] at H3
  have HC : Hid (a.data.toList.count 10 = C) := hC
  clear hC
  go_enter Try.func4, Try.ntmps4
  go_wp2_with fail
  refine (H1 _).mono ?_
  rintro e w1 ⟨v1, rfl, hO1, hB1⟩
  go_wp2_with fail
  refine (H2 _).mono ?_
  rintro e w2 ⟨v2, rfl, hO2, hB2⟩
  go_wp2_with fail
  refine (H3 _).mono ?_
  rintro e w3 ⟨v3, rfl, hO3, hB3⟩
  have hB4 := below_next (below_next hB1 hB2) hB3
  clear hO1 hO2 hO3 hB1 hB2 hB3
  go_wp2_with fail
  go_loop [17, 18] (fun lv iv => ∃ k : Nat, k ≤ a.size ∧ iv = .int .i64 k ∧ lv = .int .i64 ((1 + (a.data.toList.take k).count 10 : Nat) : Int)) (fun _ i => a.size - (intOf i).toNat)
  case atStart => exact ⟨0, Nat.zero_le _, rfl, rfl⟩
  case round =>
    obtain ⟨k, hk, rfl, rfl⟩ := hrel
    have hcl := count_le a.data.toList k
    by_cases hlt : (k : Int) < a.size
    · have hks : k < a.size := by omega
      obtain ⟨x, hd, hx⟩ := byte_at hks
      have hcn := count_next _ k x hd
      by_cases hx10 : x = 10
      · have hb2 : (a[k]'hks).toNat = 10 := by rw [hx, hx10]; rfl
        rw [if_pos hx10] at hcn
        have HCN : Hid ((a.data.toList.take (k + 1)).count 10 = (a.data.toList.take k).count 10 + 1) := hcn
        clear hcn hx10 hd hx
        generalize (a.data.toList.take k).count 10 = cc at *
        go_wp2_with fail
        go_round
        case rel => exact ⟨k + 1, by omega, by go_num, by rw [HCN.out]; go_num⟩
        case measure => simp [intOf]; omega
      · obtain ⟨z, hz⟩ : ∃ z, x.toNat = z := ⟨_, rfl⟩
        rw [hz] at hx
        have hxb : ((z : Int) == 10) = false := by
          rw [beq_eq_false_iff_ne]
          intro e
          exact hx10 (UInt8.toNat_inj.1 (by rw [hz]; show z = 10; omega))
        rw [if_neg hx10] at hcn
        have HCN : Hid ((a.data.toList.take (k + 1)).count 10 = (a.data.toList.take k).count 10 + 0) := hcn
        clear hcn hx10 hd hz
        generalize (a.data.toList.take k).count 10 = cc at *
        go_wp2_with fail
        go_round
        case rel => exact ⟨k + 1, by omega, by go_num, by rw [HCN.out]; go_num⟩
        case measure => simp [intOf]; omega
    · have hall : (a.data.toList.take k).count 10 = C := by
        rw [← HC.out, List.take_of_length_le (by rw [size_list]; omega)]
      rw [hall] at hcl ⊢
      clear hall HC
      have t3 : ((q : Int) == q) = true := by simp
      go_wp2_with fail
      refine (awake_any _).mono ?_
      rintro e w4 ⟨rfl, hB5⟩
      have hB6 := below_next hB4 hB5
      go_wp2
      go_ret
      exact ⟨rfl, hB6⟩

end Go.Proofs.Ytnjhjjbdihbjbaa
