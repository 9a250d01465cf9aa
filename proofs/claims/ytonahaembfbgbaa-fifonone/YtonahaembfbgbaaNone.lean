/-
  What the law FifoNone asks comes out true at any two numbers.
-/
import Derived.Test.YtonahaembfbgbaaAwake
namespace Go.Proofs.Ytonahaembfbgbaa
open Go.RowKit

theorem n_out {n x : Int} (h : n < 0 ∨ 2 < n ∨ x < 0 ∨ 2 < x) : pushB (newOf 3 3) n x = false ∧ whereOf (pushOf (newOf 3 3) n x) x = -1 := by
  have hf : ¬ fits (newOf 3 3) n x := fun hf => by
    have h1 : n < 3 := hf.1.2
    have h2 : x < 3 := hf.2.1.2
    have := hf.1.1
    have := hf.2.1.1
    omega
  refine ⟨if_neg hf, ?_⟩
  rw [show pushOf (newOf 3 3) n x = newOf 3 3 from if_neg hf]
  unfold whereOf
  split <;> rfl
theorem n_in {n x : Int} (h1 : 0 ≤ n ∧ n ≤ 2) (h2 : 0 ≤ x ∧ x ≤ 2) : pushB (newOf 3 3) n x = true ∧ whereOf (pushOf (newOf 3 3) n x) x = n := by
  have hf : fits (newOf 3 3) n x := ⟨⟨h1.1, show n < 3 by omega⟩, ⟨h2.1, show x < 3 by omega⟩, rfl⟩
  refine ⟨if_pos hf, ?_⟩
  rw [show pushOf (newOf 3 3) n x = pushAt (newOf 3 3) n.toNat x.toNat from if_pos hf]
  have hi : hasI (pushAt (newOf 3 3) n.toNat x.toNat) x := ⟨h2.1, show x < 3 by omega⟩
  unfold whereOf
  rw [if_pos hi]
  show setW _ x.toNat n.toNat x.toNat = n
  rw [setW_same]; omega

set_option maxHeartbeats 4000000 in
theorem fifoNone_walk (n x : Int) (w : World) : Calls Try.prog 7 #[.int .i64 n, .int .i64 x] w fun e w' => e = .returned (.bool true) ∧ Below w.heap.size w w' := by
  have HS : Hid (∀ W w' e, Owned [] W e w' → (∃ a c, e = .returned (.slice a 0 c)) ∧ Below W.heap.size W w') := fun W w' e h => by
    obtain ⟨v, rfl, h1, h2⟩ := h
    obtain ⟨a, c, rfl⟩ := owns_slice h1
    exact ⟨⟨a, c, rfl⟩, h2⟩
  have HN : Hid (∀ W : World, Calls Try.prog 8 #[.int .i64 3, .int .i64 3] W fun e w' => e = .returned (.pointer (some ⟨W.heap.size + 1, 0, none⟩)) ∧ AtQ w' (W.heap.size + 1) W.heap.size (newOf 3 3) ∧ Below W.heap.size W w') := fun W => new_any 3 3 W
  have HP : Hid (∀ B P W, AtQ W B P (newOf 3 3) → Calls Try.prog 14 #[.pointer (some ⟨B, 0, none⟩), .int .i64 n, .int .i64 x] W fun e w' => e = .returned (.bool (pushB (newOf 3 3) n x)) ∧ Now B P (pushOf (newOf 3 3) n x) W w') := fun B P W h => push_any B P _ n x W (newOf_ok (by omega) (by omega)) h
  have HW : Hid (∀ B P W, AtQ W B P (pushOf (newOf 3 3) n x) → Calls Try.prog 19 #[.pointer (some ⟨B, 0, none⟩), .int .i64 x] W fun e w' => e = .returned (.int .i64 (whereOf (pushOf (newOf 3 3) n x) x)) ∧ w' = W) := fun B P W h => where_any B P _ x W h
  generalize hq : pushOf (newOf 3 3) n x = q at HP HW
  by_cases hin : (0 ≤ n ∧ n ≤ 2) ∧ (0 ≤ x ∧ x ≤ 2)
  · obtain ⟨e1, e2⟩ := n_in hin.1 hin.2
    rw [hq] at e2
    rw [e1] at HP
    rw [e2] at HW
    have hn : (n == -1) = false := by simp; omega
    have d1 : decide (n < 0) = false := by simp; omega
    have d2 : decide (2 < n) = false := by simp; omega
    have d3 : decide (x < 0) = false := by simp; omega
    have d4 : decide (2 < x) = false := by simp; omega
    clear hin
    clear hq e1 e2
    go_enter Try.func7, Try.ntmps7
    go_wp2_with fail
    refine (pop_nil n _).mono ?_
    rintro e w1 ⟨rfl, hb⟩
    go_wp2_with fail
    refine (push_nil n x _).mono ?_
    rintro e w2 ⟨rfl, hD⟩
    replace hb := below_next hb hD.1
    clear hD
    go_wp2_with fail
    refine (remove_nil x _).mono ?_
    rintro e w3 ⟨rfl, hw3⟩
    subst hw3
    go_wp2_with fail
    refine (where_nil x _).mono ?_
    rintro e w3 ⟨rfl, hw3⟩
    subst hw3
    go_wp2_with fail
    refine (all_nil n _).mono ?_
    intro e w4 ho
    obtain ⟨⟨a, c, rfl⟩, hb4⟩ := HS.out _ _ _ ho
    replace hb := below_next hb hb4
    clear ho hb4
    go_wp2_with fail
    refine (len_nil n _).mono ?_
    rintro e w5 ⟨rfl, hb5⟩
    replace hb := below_next hb hb5
    clear hb5
    go_wp2_with fail
    refine (HN.out _).mono ?_
    rintro e w6 ⟨rfl, hA, hb6⟩
    have hBl : w.heap.size ≤ w5.heap.size + 1 := by have := hb.size; omega
    have hPl : w.heap.size ≤ w5.heap.size := hb.size
    replace hb := below_next hb hb6
    clear hb6
    generalize w5.heap.size + 1 = B at *
    generalize w5.heap.size = P at *
    have HA : Hid _ := hA
    clear hA
    go_wp2_with fail
    refine (awake_any _).mono ?_
    rintro e w7 ⟨rfl, hb7⟩
    replace HA : Hid (AtQ w7 B P (newOf 3 3)) := AtQ.below HA.out hb7
    replace hb := below_next hb hb7
    clear hb7
    go_wp2_with fail
    refine (HP.out _ _ _ HA.out).mono ?_
    rintro e w8 ⟨rfl, hA, ht⟩
    replace hb := turn_next hb ht hBl hPl
    clear HA ht
    have HA : Hid _ := hA
    clear hA
    go_wp2_with fail
    refine (HW.out _ _ _ HA.out).mono ?_
    rintro e w9 ⟨rfl, hw9⟩
    subst hw9
    go_wp2
    go_ret
    exact ⟨rfl, hb⟩
  · have ho : n < 0 ∨ 2 < n ∨ x < 0 ∨ 2 < x := by omega
    obtain ⟨e1, e2⟩ := n_out ho
    rw [hq] at e2
    rw [e1] at HP
    rw [e2] at HW
    have hout : ∃ b1 b2 b3 b4 : Bool, decide (n < 0) = b1 ∧ decide (2 < n) = b2 ∧ decide (x < 0) = b3 ∧ decide (2 < x) = b4 ∧ (b1 || b2 || b3 || b4) = true := ⟨_, _, _, _, rfl, rfl, rfl, rfl, by simp; omega⟩
    obtain ⟨b1, b2, b3, b4, d1, d2, d3, d4, hor⟩ := hout
    clear hq e1 e2 ho hin
    go_enter Try.func7, Try.ntmps7
    go_wp2_with fail
    refine (pop_nil n _).mono ?_
    rintro e w1 ⟨rfl, hb⟩
    go_wp2_with fail
    refine (push_nil n x _).mono ?_
    rintro e w2 ⟨rfl, hD⟩
    replace hb := below_next hb hD.1
    clear hD
    go_wp2_with fail
    refine (remove_nil x _).mono ?_
    rintro e w3 ⟨rfl, hw3⟩
    subst hw3
    go_wp2_with fail
    refine (where_nil x _).mono ?_
    rintro e w3 ⟨rfl, hw3⟩
    subst hw3
    go_wp2_with fail
    refine (all_nil n _).mono ?_
    intro e w4 ho
    obtain ⟨⟨a, c, rfl⟩, hb4⟩ := HS.out _ _ _ ho
    replace hb := below_next hb hb4
    clear ho hb4
    go_wp2_with fail
    refine (len_nil n _).mono ?_
    rintro e w5 ⟨rfl, hb5⟩
    replace hb := below_next hb hb5
    clear hb5
    go_wp2_with fail
    refine (HN.out _).mono ?_
    rintro e w6 ⟨rfl, hA, hb6⟩
    have hBl : w.heap.size ≤ w5.heap.size + 1 := by have := hb.size; omega
    have hPl : w.heap.size ≤ w5.heap.size := hb.size
    replace hb := below_next hb hb6
    clear hb6
    generalize w5.heap.size + 1 = B at *
    generalize w5.heap.size = P at *
    have HA : Hid _ := hA
    clear hA
    cases b1 <;> cases b2 <;> cases b3 <;> cases b4 <;> first | (simp at hor; done) | skip
    all_goals clear hor
    all_goals go_wp2_with fail
    all_goals
      refine (awake_any _).mono ?_
      rintro e w7 ⟨rfl, hb7⟩
      replace HA : Hid (AtQ w7 B P (newOf 3 3)) := AtQ.below HA.out hb7
      replace hb := below_next hb hb7
      clear hb7
      go_wp2_with fail
      refine (HP.out _ _ _ HA.out).mono ?_
      rintro e w8 ⟨rfl, hA, ht⟩
      replace hb := turn_next hb ht hBl hPl
      clear HA ht
      have HA : Hid _ := hA
      clear hA
      go_wp2_with fail
      refine (HW.out _ _ _ HA.out).mono ?_
      rintro e w9 ⟨rfl, hw9⟩
      subst hw9
      go_wp2
      go_ret
      exact ⟨rfl, hb⟩

end Go.Proofs.Ytonahaembfbgbaa
