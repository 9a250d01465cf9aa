/-
  What the law WheelStops asks comes out true at any three numbers and whether the timer is stopped.
-/
import Derived.Test.YtnciefdhgokffaaAwake
namespace Go.Proofs.Ytnciefdhgokffaa
open Go.RowKit

def t0 : Ws := newOf 2
theorem t0_ok : Ok 0 t0 := newOf_ok (by omega)
theorem set1 (σ : Ws) (h : σ.n = 2) (t : Int) : setB σ 1 = true ∧ setOf σ 1 t = ⟨2, σ.s + 1, upd σ.f 1 ⟨holdN t, σ.s + 1⟩⟩ := by
  have hh : hasT σ 1 := ⟨by omega, by rw [h]; omega⟩
  refine ⟨decide_eq_true hh, ?_⟩
  rw [show setOf σ 1 t = _ from if_pos hh, h]; rfl
def ta (t : Int) : Ws := setOf t0 1 t
theorem ta_ok (t : Int) : Ok 1 (ta t) := setOf_ok t0_ok 1 t
theorem ta_n (t : Int) : (ta t).n = 2 := by rw [show ta t = _ from (set1 t0 rfl t).2]
theorem ta_f (t : Int) (i : Nat) : (ta t).f i = if i = 1 then ⟨holdN t, 1⟩ else ⟨0, 0⟩ := by rw [show ta t = _ from (set1 t0 rfl t).2]; rfl
theorem ta_stop (t : Int) : stopB (ta t) 1 = true := decide_eq_true ⟨⟨by omega, by rw [ta_n]; omega⟩, by show 0 < ((ta t).f 1).set; rw [ta_f]; simp⟩
def tb (t : Int) : Ws := stopOf (ta t) 1
theorem tb_f (t : Int) (i : Nat) (hi : i < 2) : ((tb t).f i).set = 0 := by
  have h : tb t = stopAll (ta t) [1] := rfl
  rw [h, stopAll_f (ta t) [1] (fun a ha => by rw [ta_n]; simp at ha; omega) i, ta_f]
  by_cases e : i = 1
  · subst e; simp
  · simp [e]
theorem tb_n (t : Int) : (tb t).n = 2 := ((stopOf_n (ta t) 1).1).trans (ta_n t)
theorem tb_stop (t : Int) : stopB (tb t) 1 = false := decide_eq_false (fun h => by have h2 : 0 < ((tb t).f 1).set := h.2; rw [tb_f t 1 (by omega)] at h2; omega)
theorem dueTo_nil {σ : Ws} {N n : Nat} (h : ∀ i, i < n → ¬ isDue σ N i) : dueTo σ N n = [] := by
  rw [dueTo, List.filter_eq_nil_iff]
  intro a ha
  simp only [List.mem_range] at ha
  simpa using h a ha
theorem tbb : ∀ t, stopOf (tb t) 1 = tb t := fun t => if_neg (of_decide_eq_false (tb_stop t))
theorem tb_due (t now : Int) : DueIs (tb t) now [] := by
  refine ⟨?_, List.Pairwise.nil⟩
  rw [dueTo_nil (fun i hi h => by rw [tb_n] at hi; have h2 := h.1; rw [tb_f t i hi] at h2; omega)]
def td (t u : Int) : Ws := setOf (ta t) 1 u
theorem td_ok (t u : Int) : Ok 2 (td t u) := setOf_ok (ta_ok t) 1 u
theorem td_is (t u : Int) : td t u = ⟨2, (ta t).s + 1, upd (ta t).f 1 ⟨holdN u, (ta t).s + 1⟩⟩ := (set1 (ta t) (ta_n t) u).2
theorem td_n (t u : Int) : (td t u).n = 2 := by rw [td_is]
theorem td_f (t u : Int) (i : Nat) : (td t u).f i = if i = 1 then ⟨holdN u, (ta t).s + 1⟩ else ⟨0, 0⟩ := by
  rw [td_is]
  by_cases e : i = 1
  · subst e; simp [upd_same]
  · simp only [upd_other _ _ e, if_neg e]; rw [ta_f, if_neg e]
theorem td_none (t u now : Int) (h : hold now < hold u) : DueIs (td t u) now [] := by
  refine ⟨?_, List.Pairwise.nil⟩
  rw [dueTo_nil (fun i hi k => ?_)]
  have k1 := k.1
  have k2 := k.2
  rw [td_f] at k1 k2
  by_cases e : i = 1
  · rw [if_pos e] at k2
    have a := holdN_int u
    have b := holdN_int now
    simp only at k2
    omega
  · rw [if_neg e] at k1; simp at k1
theorem td_one (t u now : Int) (h : hold u ≤ hold now) : DueIs (td t u) now [1] := by
  refine ⟨?_, by simp⟩
  rw [td_n]
  have n0 : ¬ isDue (td t u) (holdN now) 0 := fun k => by have := k.1; rw [td_f] at this; simp at this
  have n1 : isDue (td t u) (holdN now) 1 := by
    have a := holdN_int u
    have b := holdN_int now
    refine ⟨?_, ?_⟩
    · rw [td_f]; simp
    · rw [td_f]; simp only [if_true]; omega
  rw [dueTo_yes n1, dueTo_no n0]
  simp [dueTo]
theorem td_after (t u now : Int) (h : hold u ≤ hold now) : stopB (dueOf (td t u) now) 1 = false := decide_eq_false (fun k => by
  have h2 : 0 < ((dueOf (td t u) now).f 1).set := k.2
  have n1 : isDue (td t u) (holdN now) 1 := by
    have a := holdN_int u
    have b := holdN_int now
    refine ⟨?_, ?_⟩
    · rw [td_f]; simp
    · rw [td_f]; simp only [if_true]; omega
  have e : (dueOf (td t u) now).f 1 = ⟨0, 0⟩ := if_pos ⟨by rw [td_n]; omega, n1⟩
  rw [e] at h2
  simp at h2)

set_option maxHeartbeats 4000000 in
theorem wheelStops_walk (t u : Int) (b : Bool) (now : Int) (w : World) : Calls Try.prog 6 #[.int .i64 t, .int .i64 u, .bool b, .int .i64 now] w fun e w' => e = .returned (.bool true) ∧ Below w.heap.size w w' := by
  obtain ⟨B, hB⟩ : ∃ B, B = w.heap.size := ⟨_, rfl⟩
  have hBl : w.heap.size ≤ B := by omega
  have N0 : Hid (Calls Try.prog 8 #[.int .i64 2] w fun e w' => e = .returned (.pointer (some ⟨B, 0, none⟩)) ∧ AtW w' B t0 ∧ Below w.heap.size w w') := by rw [hB]; exact new_any 2 w
  have T0 : Hid (∀ W, AtW W B t0 → Calls Try.prog 15 #[.pointer (some ⟨B, 0, none⟩), .int .i64 1, .int .i64 t] W fun e w' => e = .returned (.bool true) ∧ Now B (ta t) W w') := fun W h => by
    have := set_any 0 (by omega) B t0 1 t W t0_ok h; rw [(set1 t0 rfl t).1] at this; exact this
  have T1 : Hid (∀ W, AtW W B (ta t) → Calls Try.prog 13 #[.pointer (some ⟨B, 0, none⟩), .int .i64 1] W fun e w' => e = .returned (.bool true) ∧ Now B (tb t) W w') := fun W h => by
    have := stop_any B (ta t) 1 (ta_ok t).n16 W h; rw [ta_stop] at this; exact this
  have T2 : Hid (∀ W, AtW W B (tb t) → Calls Try.prog 13 #[.pointer (some ⟨B, 0, none⟩), .int .i64 1] W fun e w' => e = .returned (.bool false) ∧ Now B (tb t) W w') := fun W h => by
    have := stop_any B (tb t) 1 (stopOf_ok (ta_ok t) 1).n16 W h; rw [tb_stop, tbb] at this; exact this
  have T3 : Hid (∀ W, AtW W B (tb t) → Calls Try.prog 11 #[.pointer (some ⟨B, 0, none⟩), .int .i64 now] W fun e w' => ∃ a c, e = .returned (.slice a 0 c) ∧ w'.ownsRow W.heap.size 3 1 (.slice a 0 c) 0 (cI []) ∧ Now B (dueOf (tb t) now) W w') := fun W h => due_says (by omega) (stopOf_ok (ta_ok t) 1) (tb_due t now) W h
  have T4 : Hid (∀ W, AtW W B (ta t) → Calls Try.prog 15 #[.pointer (some ⟨B, 0, none⟩), .int .i64 1, .int .i64 u] W fun e w' => e = .returned (.bool true) ∧ Now B (td t u) W w') := fun W h => by
    have := set_any 1 (by omega) B (ta t) 1 u W (ta_ok t) h; rw [(set1 (ta t) (ta_n t) u).1] at this; exact this
  have T5 : Hid (hold now < hold u → ∀ W, AtW W B (td t u) → Calls Try.prog 11 #[.pointer (some ⟨B, 0, none⟩), .int .i64 now] W fun e w' => ∃ a c, e = .returned (.slice a 0 c) ∧ w'.ownsRow W.heap.size 3 1 (.slice a 0 c) 0 (cI []) ∧ Now B (dueOf (td t u) now) W w') := fun h0 W h => due_says (by omega) (td_ok t u) (td_none t u now h0) W h
  have T6 : Hid (hold u ≤ hold now → ∀ W, AtW W B (td t u) → Calls Try.prog 11 #[.pointer (some ⟨B, 0, none⟩), .int .i64 now] W fun e w' => ∃ a c, e = .returned (.slice a 1 c) ∧ w'.ownsRow W.heap.size 3 1 (.slice a 1 c) 1 (cI [1]) ∧ Now B (dueOf (td t u) now) W w') := fun h0 W h => due_says (by omega) (td_ok t u) (td_one t u now h0) W h
  have T7 : Hid (hold u ≤ hold now → ∀ W, AtW W B (dueOf (td t u) now) → Calls Try.prog 13 #[.pointer (some ⟨B, 0, none⟩), .int .i64 1] W fun e w' => e = .returned (.bool false) ∧ Now B (stopOf (dueOf (td t u) now) 1) W w') := fun h0 W h => by
    have := stop_any B (dueOf (td t u) now) 1 (dueOf_ok (td_ok t u) now (td_one t u now h0)).n16 W h; rw [td_after t u now h0] at this; exact this
  have L1 : Hid (∀ (a : Option Addr) (c b : Nat) (W : World), W.ownsRow b 3 1 (.slice a 1 c) 1 (cI [1]) → Calls Try.prog 10 #[.slice a 1 c, .slice (some ⟨W.heap.size, 0, none⟩) 1 1] (W.alloc (.cells #[.int .i64 1] 3)) fun e w' => e = .returned (.bool true) ∧ Below W.heap.size W w') := fun a c b W h =>
    (ints_same a (some ⟨W.heap.size, 0, none⟩) c 1 b W.heap.size [1] _ (by simp) (owns_below h ((Below.refl _ _).alloc (Nat.le_refl _) _)) (owns_lit W [1] (by simp))).mono fun _ _ k => ⟨k.1, ((Below.refl _ _).alloc (Nat.le_refl _) _).trans (k.2.mono (by simp))⟩
  have H1 := hide (fun W => held_any u W)
  have H2 := hide (fun W => held_any now W)
  generalize hold u = HU at *
  generalize hold now = HN at *
  clear hB
  go_enter Try.func6, Try.ntmps6
  go_wp2_with fail
  refine N0.out.mono ?_
  rintro e w1 ⟨rfl, hA, hb⟩
  have HA : Hid _ := hA
  clear hA
  go_wp2_with fail
  refine (T0.out _ HA.out).mono ?_
  rintro e w2 ⟨rfl, hA, ht⟩
  replace hb := turn_next hb ht hBl
  clear HA ht
  have HA : Hid _ := hA
  clear hA
  cases b
  · go_wp2_with fail
    refine (T4.out _ HA.out).mono ?_
    rintro e w3 ⟨rfl, hA, ht⟩
    replace hb := turn_next hb ht hBl
    clear HA ht
    have HA : Hid _ := hA
    clear hA
    by_cases h0 : HN < HU
    · have hd : decide (HN < HU) = true := decide_eq_true h0
      go_wp2_with fail
      refine (T5.out h0 _ HA.out).mono ?_
      rintro e w4 ⟨a, c, rfl, _, hA, ht⟩
      replace hb := turn_next hb ht hBl
      clear HA ht hA
      go_wp2_with fail
      refine (H1.out _).mono ?_
      rintro e w5 ⟨rfl, hw5⟩
      subst hw5
      go_wp2_with fail
      refine (H2.out _).mono ?_
      rintro e w5 ⟨rfl, hw5⟩
      subst hw5
      go_wp2_with fail
      refine (awake_any _).mono ?_
      rintro e w6 ⟨rfl, hb6⟩
      replace hb := below_next hb hb6
      go_wp2
      go_ret
      exact ⟨rfl, hb⟩
    · have hd : decide (HN < HU) = false := decide_eq_false h0
      have h1 : HU ≤ HN := by omega
      go_wp2_with fail
      refine (T6.out h1 _ HA.out).mono ?_
      rintro e w4 ⟨a, c, rfl, hr, hA, ht⟩
      replace hb := turn_next hb ht hBl
      clear HA ht
      have HA : Hid _ := hA
      have HR := hide hr
      clear hA hr
      go_wp2_with fail
      refine (H1.out _).mono ?_
      rintro e w5 ⟨rfl, hw5⟩
      subst hw5
      go_wp2_with fail
      refine (H2.out _).mono ?_
      rintro e w5 ⟨rfl, hw5⟩
      subst hw5
      go_wp2_with fail
      refine (awake_any _).mono ?_
      rintro e w6 ⟨rfl, hb6⟩
      replace hb := below_next hb hb6
      replace HA := hide (AtW.below HA.out hb6)
      replace HR := hide (owns_below HR.out hb6)
      clear hb6
      go_wp2_with fail
      refine (L1.out _ _ _ _ HR.out).mono ?_
      rintro e w7 ⟨rfl, hb6⟩
      replace hb := below_next hb hb6
      replace HA := hide (AtW.below HA.out hb6)
      clear hb6
      go_wp2_with fail
      refine (T7.out h1 _ HA.out).mono ?_
      rintro e w8 ⟨rfl, hA, ht⟩
      replace hb := turn_next hb ht hBl
      clear HA ht hA
      go_wp2
      go_ret
      exact ⟨rfl, hb⟩
  · go_wp2_with fail
    refine (T1.out _ HA.out).mono ?_
    rintro e w3 ⟨rfl, hA, ht⟩
    replace hb := turn_next hb ht hBl
    clear HA ht
    have HA : Hid _ := hA
    clear hA
    go_wp2_with fail
    refine (T2.out _ HA.out).mono ?_
    rintro e w4 ⟨rfl, hA, ht⟩
    replace hb := turn_next hb ht hBl
    clear HA ht
    have HA : Hid _ := hA
    clear hA
    go_wp2_with fail
    refine (T3.out _ HA.out).mono ?_
    rintro e w5 ⟨a, c, rfl, _, hA, ht⟩
    replace hb := turn_next hb ht hBl
    clear HA ht hA
    go_wp2_with fail
    refine (awake_any _).mono ?_
    rintro e w6 ⟨rfl, hb6⟩
    replace hb := below_next hb hb6
    go_wp2
    go_ret
    exact ⟨rfl, hb⟩

end Go.Proofs.Ytnciefdhgokffaa
