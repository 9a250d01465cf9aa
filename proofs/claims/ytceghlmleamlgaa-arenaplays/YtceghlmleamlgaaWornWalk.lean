/-
  The walk of the law ArenaWorn.
-/
import Derived.Test.YtceghlmleamlgaaWorn
namespace Go.Proofs.Ytceghlmleamlgaa
open Go.RowKit

theorem hide {p : Prop} (h : p) : Hid p := h

set_option maxHeartbeats 2000000 in
theorem arenaWorn_walk (x : Int) (hx : 0 ≤ x ∧ x ≤ 255) (w : World) : Calls Try.prog 5 #[.int .u8 x] w fun e w' => e = .returned (.bool true) ∧ Below w.heap.size w w' := by
  obtain ⟨m, hm⟩ : ∃ m : Nat, (m : Int) = x % 16 := ⟨(x % 16).toNat, by omega⟩
  have hm16 : m < 16 := by omega
  have ht : x.tmod 16 = (m : Int) := by rw [Int.tmod_eq_emod_of_nonneg (by omega)]; exact hm.symm
  have hw8 : IntKind.u8.wrap (m : Int) = (m : Int) := by simp [IntKind.wrap, IntKind.bits, IntKind.signed]; omega
  have hw64 : wrap64 (m : Int) = (m : Int) := by unfold wrap64; omega
  obtain ⟨n, hn⟩ : ∃ n : Nat, n = 1 + m := ⟨_, rfl⟩
  have hwn : IntKind.i64.wrap (1 + (m : Int)) = (n : Int) := by rw [wrapB (by omega)]; omega
  have hn16 : n ≤ 16 := by omega
  have hnN : newN (n : Int) = n := by unfold newN; omega
  obtain ⟨B, hB⟩ : ∃ B, B = w.heap.size + 1 := ⟨_, rfl⟩
  obtain ⟨P, hP⟩ : ∃ P, P = w.heap.size := ⟨_, rfl⟩
  have hBl : w.heap.size ≤ B := by omega
  have hPl : w.heap.size ≤ P := by omega
  have N0 : Hid (Calls Try.prog 7 #[.int .i64 (n : Int)] w fun e w' => e = .returned (.pointer (some ⟨B, 0, none⟩)) ∧ AtA w' B P (wornAt n 0 0) ∧ Below w.heap.size w w') := by
    have := new_any (n : Int) w
    rw [hnN, worn_new] at this
    rw [hB, hP]; exact this
  clear hm hn hnN hB hP hx
  go_enter Try.func5, Try.ntmps5
  go_wp2_with fail
  refine N0.out.mono ?_
  rintro e w1 ⟨rfl, hA, hb⟩
  have HA : Hid _ := hA
  clear hA N0
  go_wp2
  go_loopw [5] (fun i wr => ∃ p : Nat, p ≤ n ∧ i = .int .i64 p ∧ AtA wr B P (wornAt n p 0) ∧ Below w.heap.size w wr) (fun i _ => n - (intOf i).toNat)
  case atStart => exact ⟨0, Nat.zero_le _, rfl, HA.out, hb⟩
  case round =>
    clear HA hb
    obtain ⟨p, hp, rfl, hA, hb⟩ := hrel
    have HA : Hid _ := hA
    clear hA
    by_cases hlt : p < n
    · have hlt' : (p : Int) < (n : Int) := by omega
      go_wp2
      go_loopw [6] (fun i w2 => ∃ k : Nat, k ≤ 256 ∧ i = .int .i64 k ∧ AtA w2 B P (wornAt n p k) ∧ Below w.heap.size w w2) (fun i _ => 256 - (intOf i).toNat)
      case atStart => exact ⟨0, Nat.zero_le _, rfl, HA.out, hb⟩
      case round =>
        clear HA hb
        obtain ⟨k, hk, rfl, hA, hb⟩ := hrel
        have HA : Hid _ := hA
        clear hA
        by_cases hkt : k < 256
        · have hkt' : (k : Int) < 256 := by omega
          obtain ⟨t1, t2⟩ := worn_take hlt hkt
          obtain ⟨t3, t4⟩ := worn_free hn16 hlt hkt
          have hT := fun W h => take_any B P 256 (wornAt n p k) (by omega) W (worn_fit hn16 hlt (by omega)) h
          have hH : hd p k ≤ 5000 := by unfold hd; omega
          have hF := fun W h => free_any B P 256 (takeOf (wornAt n p k)) ((hd p k : Nat) : Int) (by omega) (by omega) W (takeOf_fit (worn_fit hn16 hlt (by omega))) h
          rw [t1, t2] at hT
          rw [t3, t4] at hF
          have hwh : IntKind.i64.wrap (IntKind.i64.wrap (1 + (p : Int)) + IntKind.i64.wrap (16 * (k : Int))) = ((hd p k : Nat) : Int) := by
            rw [wrapB (n := 1 + (p : Int)) (by omega), wrapB (n := 16 * (k : Int)) (by omega), wrapB (by omega)]; unfold hd; omega
          have hh : 1 + (p : Int) + 16 * (k : Int) = ((hd p k : Nat) : Int) := by unfold hd; omega
          have HT := hide hT
          have HF := hide hF
          clear hT hF t1 t2 t3 t4
          generalize hd p k = H at *
          go_wp2_with fail
          refine (HT.out _ HA.out).mono ?_
          rintro e w3 ⟨rfl, hA, ht3⟩
          replace hb := turn_next hb ht3 hBl hPl
          clear HA ht3
          have HA : Hid _ := hA
          clear hA
          go_wp2_with fail
          refine (HF.out _ HA.out).mono ?_
          rintro e w4 ⟨rfl, hA, ht4⟩
          replace hb := turn_next hb ht4 hBl hPl
          clear HA ht4
          have HA : Hid _ := hA
          clear hA
          go_wp2
          go_roundw
          case rel => exact ⟨k + 1, by omega, by go_num, HA.out, hb⟩
          case measure => simp [intOf]; omega
        · obtain rfl : k = 256 := by omega
          rw [worn_next] at HA
          go_wp2
          go_roundw
          case rel => exact ⟨p + 1, by omega, by go_num, HA.out, hb⟩
          case measure => simp [intOf]; omega
    · obtain rfl : p = n := by omega
      obtain ⟨t1, t2, t3⟩ := worn_end (n := p)
      have hT := fun W h => take_any B P 256 (wornAt p p 0) (by omega) W (worn_endfit hn16) h
      have hL := fun W h => live_any B P 256 (wornAt p p 0) (by omega) W (worn_endfit hn16) h
      rw [t2, t1, t3] at hT
      rw [worn_live] at hL
      have HT := hide hT
      have HL := hide hL
      clear hT hL t1 t2 t3
      go_wp2_with fail
      refine (HT.out _ HA.out).mono ?_
      rintro e w3 ⟨rfl, hA, ht3⟩
      replace hb := turn_next hb ht3 hBl hPl
      clear HA ht3
      have HA : Hid _ := hA
      clear hA
      go_wp2_with fail
      refine (awake_any _).mono ?_
      rintro e w4 ⟨rfl, hb4⟩
      have hA := HA.out.below hb4
      replace hb := below_next hb hb4
      clear HA hb4
      have HA : Hid _ := hA
      clear hA
      go_wp2_with fail
      refine (HL.out _ HA.out).mono ?_
      rintro e w5 ⟨v, rfl, ho, hb5⟩
      obtain ⟨ad, cap, rfl⟩ := owns_slice ho
      replace hb := below_next hb hb5
      clear ho hb5
      go_wp2
      go_ret
      exact ⟨rfl, hb⟩

end Go.Proofs.Ytceghlmleamlgaa
