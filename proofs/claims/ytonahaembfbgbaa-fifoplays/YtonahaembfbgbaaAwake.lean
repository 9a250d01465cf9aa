/-
  The fixed fact that each statement asks comes out true; and what no queues answer.
-/
import Derived.Test.YtonahaembfbgbaaAll
import Derived.Test.YtonahaembfbgbaaPop
namespace Go.Proofs.Ytonahaembfbgbaa
open Go.RowKit

theorem turn_next {W a b : World} {B P : Nat} (h : Below W.heap.size W a) (k : Turn B P a b) (h1 : W.heap.size ≤ B) (h2 : W.heap.size ≤ P) : Below W.heap.size W b := h.trans (k.below h.size h1 h2)
theorem owns_slice {W : World} {base e size : Nat} {v : Value} {n : Nat} {xs : List Value} (h : W.ownsRow base e size v n xs) : ∃ a c, v = .slice a n c := by
  rcases h.2 with ⟨rfl, rfl⟩ | ⟨g, cap, cur, rfl, _⟩
  · exact ⟨none, 0, rfl⟩
  · exact ⟨_, _, rfl⟩

def s0 : Qs := newOf 2 4
def s1 : Qs := pushOf s0 0 3
def s2 : Qs := pushOf s1 0 1
def s3 : Qs := pushOf s2 1 3
def s4 : Qs := rmOf s3 3
def s5 : Qs := popOf s4 0
theorem o0 : Ok s0 := newOf_ok (by omega) (by omega)
theorem o1 : Ok s1 := pushOf_ok o0 _ _
theorem o2 : Ok s2 := pushOf_ok o1 _ _
theorem o3 : Ok s3 := pushOf_ok o2 _ _
theorem o4 : Ok s4 := rmOf_ok o3 _
theorem o5 : Ok s5 := popOf_ok o4 _
theorem v0 : pushB s0 0 3 = true := by decide
theorem v1 : pushB s1 0 1 = true := by decide
theorem v2 : pushB s2 1 3 = false := by decide
theorem v3 : rmB s3 3 = true := by decide
theorem v4 : popX s4 0 = 1 ∧ popB s4 0 = true := by decide
theorem v5 : whereOf s5 1 = -1 ∧ (allOf s5 0).length = 0 := by decide

set_option maxHeartbeats 2000000 in
theorem awake_any (w : World) : Calls Try.prog 21 #[] w fun e w' => e = .returned (.bool true) ∧ Below w.heap.size w w' := by
  obtain ⟨B, hB⟩ : ∃ B, B = w.heap.size + 1 := ⟨_, rfl⟩
  obtain ⟨P, hP⟩ : ∃ P, P = w.heap.size := ⟨_, rfl⟩
  have hBl : w.heap.size ≤ B := by omega
  have hPl : w.heap.size ≤ P := by omega
  have N0 : Hid (Calls Try.prog 8 #[.int .i64 2, .int .i64 4] w fun e w' => e = .returned (.pointer (some ⟨B, 0, none⟩)) ∧ AtQ w' B P s0 ∧ Below w.heap.size w w') := by rw [hB, hP]; exact new_any 2 4 w
  have T0 : Hid (∀ W, AtQ W B P s0 → Calls Try.prog 14 #[.pointer (some ⟨B, 0, none⟩), .int .i64 0, .int .i64 3] W fun e w' => e = .returned (.bool true) ∧ Now B P s1 W w') := fun W h => by
    have := push_any B P s0 0 3 W o0 h; rw [v0] at this; exact this
  have T1 : Hid (∀ W, AtQ W B P s1 → Calls Try.prog 14 #[.pointer (some ⟨B, 0, none⟩), .int .i64 0, .int .i64 1] W fun e w' => e = .returned (.bool true) ∧ Now B P s2 W w') := fun W h => by
    have := push_any B P s1 0 1 W o1 h; rw [v1] at this; exact this
  have T2 : Hid (∀ W, AtQ W B P s2 → Calls Try.prog 14 #[.pointer (some ⟨B, 0, none⟩), .int .i64 1, .int .i64 3] W fun e w' => e = .returned (.bool false) ∧ Now B P s3 W w') := fun W h => by
    have := push_any B P s2 1 3 W o2 h; rw [v2] at this; exact this
  have T3 : Hid (∀ W, AtQ W B P s3 → Calls Try.prog 12 #[.pointer (some ⟨B, 0, none⟩), .int .i64 3] W fun e w' => e = .returned (.bool true) ∧ Now B P s4 W w') := fun W h => by
    have := remove_any B P s3 3 W o3 h; rw [v3] at this; exact this
  have T4 : Hid (∀ W, AtQ W B P s4 → Calls Try.prog 10 #[.pointer (some ⟨B, 0, none⟩), .int .i64 0] W fun e w' => e = .returned (.tuple #[.int .i64 1, .bool true]) ∧ Now B P s5 W w') := fun W h => by
    have := pop_any B P s4 0 W o4 h; rw [v4.1, v4.2] at this; exact this
  have T5 : Hid (∀ W, AtQ W B P s5 → Calls Try.prog 19 #[.pointer (some ⟨B, 0, none⟩), .int .i64 1] W fun e w' => e = .returned (.int .i64 (-1)) ∧ w' = W) := fun W h => by
    have := where_any B P s5 1 W h; rw [v5.1] at this; exact this
  have T6 : Hid (∀ W, AtQ W B P s5 → Calls Try.prog 18 #[.pointer (some ⟨B, 0, none⟩), .int .i64 0] W fun e w' => e = .returned (.int .i64 0) ∧ Below W.heap.size W w') := fun W h => by
    have := len_any B P s5 0 W o5 h (by rw [v5.2]; omega); rw [v5.2] at this; exact this
  clear hB hP
  go_enter Try.func21, Try.ntmps21
  go_wp2_with fail
  refine N0.out.mono ?_
  rintro e w1 ⟨rfl, hA, hb⟩
  have HA : Hid _ := hA
  clear hA
  go_wp2_with fail
  refine (T0.out _ HA.out).mono ?_
  rintro e w2 ⟨rfl, hA, ht⟩
  replace hb := turn_next hb ht hBl hPl
  clear HA ht
  have HA : Hid _ := hA
  clear hA
  go_wp2_with fail
  refine (T1.out _ HA.out).mono ?_
  rintro e w3 ⟨rfl, hA, ht⟩
  replace hb := turn_next hb ht hBl hPl
  clear HA ht
  have HA : Hid _ := hA
  clear hA
  go_wp2_with fail
  refine (T2.out _ HA.out).mono ?_
  rintro e w4 ⟨rfl, hA, ht⟩
  replace hb := turn_next hb ht hBl hPl
  clear HA ht
  have HA : Hid _ := hA
  clear hA
  go_wp2_with fail
  refine (T3.out _ HA.out).mono ?_
  rintro e w5 ⟨rfl, hA, ht⟩
  replace hb := turn_next hb ht hBl hPl
  clear HA ht
  have HA : Hid _ := hA
  clear hA
  go_wp2_with fail
  refine (T4.out _ HA.out).mono ?_
  rintro e w6 ⟨rfl, hA, ht⟩
  replace hb := turn_next hb ht hBl hPl
  clear HA ht
  have HA : Hid _ := hA
  clear hA
  go_wp2_with fail
  refine (T5.out _ HA.out).mono ?_
  rintro e w7 ⟨rfl, hw7⟩
  subst hw7
  go_wp2_with fail
  refine (T6.out _ HA.out).mono ?_
  rintro e w8 ⟨rfl, hb8⟩
  replace hb := below_next hb hb8
  go_wp2
  go_ret
  exact ⟨rfl, hb⟩

end Go.Proofs.Ytonahaembfbgbaa
