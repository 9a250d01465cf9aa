/-
  The fixed fact that each statement asks comes out true.
-/
import Derived.Test.YtnciefdhgokffaaNext
namespace Go.Proofs.Ytnciefdhgokffaa
open Go.RowKit

def s0 : Ws := newOf 3
def s1 : Ws := setOf s0 0 9
def s2 : Ws := setOf s1 1 4
def s3 : Ws := setOf s2 2 4
def s4 : Ws := setOf s3 1 4
def s5 : Ws := dueOf s4 8
def s6 : Ws := dueOf s5 9
theorem o0 : Ok 0 s0 := newOf_ok (by omega)
theorem o1 : Ok 1 s1 := setOf_ok o0 _ _
theorem o2 : Ok 2 s2 := setOf_ok o1 _ _
theorem o3 : Ok 3 s3 := setOf_ok o2 _ _
theorem o4 : Ok 4 s4 := setOf_ok o3 _ _
theorem d4 : DueIs s4 8 [2, 1] := ⟨by decide, by decide⟩
theorem o5 : Ok 4 s5 := dueOf_ok o4 8 d4
theorem d5 : DueIs s5 9 [0] := ⟨by decide, by decide⟩
theorem o6 : Ok 4 s6 := dueOf_ok o5 9 d5
theorem b0 : setB s0 0 = true ∧ setB s1 1 = true ∧ setB s2 2 = true ∧ setB s3 1 = true := by decide
theorem n4 : nx s4 s4.n = (4, true) := by decide
theorem b6 : stopB s6 0 = false ∧ setB (stopOf s6 0) 3 = false := by decide

theorem due_says {K : Nat} (hK : K ≤ 1000000) {B : Nat} {σ : Ws} {now : Int} {l : List Nat} (hO : Ok K σ) (hd : DueIs σ now l) (w : World) (hA : AtW w B σ) :
    Calls Try.prog 11 #[.pointer (some ⟨B, 0, none⟩), .int .i64 now] w fun e w' => ∃ a c, e = .returned (.slice a l.length c) ∧ w'.ownsRow w.heap.size 3 1 (.slice a l.length c) l.length (cI l) ∧ Now B (dueOf σ now) w w' :=
  (due_any K hK B σ now w hO hA).mono fun e w' h => by
    obtain ⟨l', v, rfl, h1, h2, h3⟩ := h
    obtain rfl := due_unique hd h1
    obtain ⟨a, c, rfl⟩ := owns_slice h2
    exact ⟨a, c, rfl, h2, h3⟩

set_option maxHeartbeats 4000000 in
theorem awake_any (w : World) : Calls Try.prog 20 #[] w fun e w' => e = .returned (.bool true) ∧ Below w.heap.size w w' := by
  obtain ⟨B, hB⟩ : ∃ B, B = w.heap.size := ⟨_, rfl⟩
  have hBl : w.heap.size ≤ B := by omega
  have N0 : Hid (Calls Try.prog 8 #[.int .i64 3] w fun e w' => e = .returned (.pointer (some ⟨B, 0, none⟩)) ∧ AtW w' B s0 ∧ Below w.heap.size w w') := by rw [hB]; exact new_any 3 w
  have T0 : Hid (∀ W, AtW W B s0 → Calls Try.prog 15 #[.pointer (some ⟨B, 0, none⟩), .int .i64 0, .int .i64 9] W fun e w' => e = .returned (.bool true) ∧ Now B s1 W w') := fun W h => by
    have := set_any 0 (by omega) B s0 0 9 W o0 h; rw [b0.1] at this; exact this
  have T1 : Hid (∀ W, AtW W B s1 → Calls Try.prog 15 #[.pointer (some ⟨B, 0, none⟩), .int .i64 1, .int .i64 4] W fun e w' => e = .returned (.bool true) ∧ Now B s2 W w') := fun W h => by
    have := set_any 1 (by omega) B s1 1 4 W o1 h; rw [b0.2.1] at this; exact this
  have T2 : Hid (∀ W, AtW W B s2 → Calls Try.prog 15 #[.pointer (some ⟨B, 0, none⟩), .int .i64 2, .int .i64 4] W fun e w' => e = .returned (.bool true) ∧ Now B s3 W w') := fun W h => by
    have := set_any 2 (by omega) B s2 2 4 W o2 h; rw [b0.2.2.1] at this; exact this
  have T3 : Hid (∀ W, AtW W B s3 → Calls Try.prog 15 #[.pointer (some ⟨B, 0, none⟩), .int .i64 1, .int .i64 4] W fun e w' => e = .returned (.bool true) ∧ Now B s4 W w') := fun W h => by
    have := set_any 3 (by omega) B s3 1 4 W o3 h; rw [b0.2.2.2] at this; exact this
  have T4 : Hid (∀ W, AtW W B s4 → Calls Try.prog 19 #[.pointer (some ⟨B, 0, none⟩)] W fun e w' => e = .returned (.tuple #[.int .i64 4, .bool true]) ∧ w' = W) := fun W h => by
    have := next_is B s4 o4.n16 W h; rw [n4] at this; exact this
  have T5 : Hid (∀ W, AtW W B s4 → Calls Try.prog 11 #[.pointer (some ⟨B, 0, none⟩), .int .i64 8] W fun e w' => ∃ a c, e = .returned (.slice a 2 c) ∧ w'.ownsRow W.heap.size 3 1 (.slice a 2 c) 2 (cI [2, 1]) ∧ Now B s5 W w') := fun W h => due_says (by omega) o4 d4 W h
  have T6 : Hid (∀ W, AtW W B s5 → Calls Try.prog 11 #[.pointer (some ⟨B, 0, none⟩), .int .i64 9] W fun e w' => ∃ a c, e = .returned (.slice a 1 c) ∧ w'.ownsRow W.heap.size 3 1 (.slice a 1 c) 1 (cI [0]) ∧ Now B s6 W w') := fun W h => due_says (by omega) o5 d5 W h
  have T7 : Hid (∀ W, AtW W B s6 → Calls Try.prog 13 #[.pointer (some ⟨B, 0, none⟩), .int .i64 0] W fun e w' => e = .returned (.bool false) ∧ Now B (stopOf s6 0) W w') := fun W h => by
    have := stop_any B s6 0 o6.n16 W h; rw [b6.1] at this; exact this
  have T8 : Hid (∀ W, AtW W B (stopOf s6 0) → Calls Try.prog 15 #[.pointer (some ⟨B, 0, none⟩), .int .i64 3, .int .i64 1] W fun e w' => e = .returned (.bool false) ∧ Now B (setOf (stopOf s6 0) 3 1) W w') := fun W h => by
    have := set_any 4 (by omega) B (stopOf s6 0) 3 1 W (stopOf_ok o6 0) h; rw [b6.2] at this; exact this
  have L1 : Hid (∀ (a : Option Addr) (c b : Nat) (W : World), W.ownsRow b 3 1 (.slice a 2 c) 2 (cI [2, 1]) → Calls Try.prog 10 #[.slice a 2 c, .slice (some ⟨W.heap.size, 0, none⟩) 2 2] (W.alloc (.cells #[.int .i64 2, .int .i64 1] 3)) fun e w' => e = .returned (.bool true) ∧ Below W.heap.size W w') := fun a c b W h =>
    (ints_same a (some ⟨W.heap.size, 0, none⟩) c 2 b W.heap.size [2, 1] _ (by simp) (owns_below h ((Below.refl _ _).alloc (Nat.le_refl _) _)) (owns_lit W [2, 1] (by simp))).mono fun _ _ k => ⟨k.1, ((Below.refl _ _).alloc (Nat.le_refl _) _).trans (k.2.mono (by simp))⟩
  have L2 : Hid (∀ (a : Option Addr) (c b : Nat) (W : World), W.ownsRow b 3 1 (.slice a 1 c) 1 (cI [0]) → Calls Try.prog 10 #[.slice a 1 c, .slice (some ⟨W.heap.size, 0, none⟩) 1 1] (W.alloc (.cells #[.int .i64 0] 3)) fun e w' => e = .returned (.bool true) ∧ Below W.heap.size W w') := fun a c b W h =>
    (ints_same a (some ⟨W.heap.size, 0, none⟩) c 1 b W.heap.size [0] _ (by simp) (owns_below h ((Below.refl _ _).alloc (Nat.le_refl _) _)) (owns_lit W [0] (by simp))).mono fun _ _ k => ⟨k.1, ((Below.refl _ _).alloc (Nat.le_refl _) _).trans (k.2.mono (by simp))⟩
  clear hB
  go_enter Try.func20, Try.ntmps20
  go_wp2_with fail
  refine N0.out.mono ?_
  rintro e w1 ⟨rfl, hA, hb⟩
  have HA : Hid _ := hA
  clear hA
  go_wp2_with fail
  refine (T0.out _ HA.out).mono ?_
  rintro e w2 ⟨rfl, hA, ht⟩
  replace hb := turn_next hb ht hBl
  clear HA ht
  have HA : Hid _ := hA
  clear hA
  go_wp2_with fail
  refine (T1.out _ HA.out).mono ?_
  rintro e w3 ⟨rfl, hA, ht⟩
  replace hb := turn_next hb ht hBl
  clear HA ht
  have HA : Hid _ := hA
  clear hA
  go_wp2_with fail
  refine (T2.out _ HA.out).mono ?_
  rintro e w4 ⟨rfl, hA, ht⟩
  replace hb := turn_next hb ht hBl
  clear HA ht
  have HA : Hid _ := hA
  clear hA
  go_wp2_with fail
  refine (T3.out _ HA.out).mono ?_
  rintro e w5 ⟨rfl, hA, ht⟩
  replace hb := turn_next hb ht hBl
  clear HA ht
  have HA : Hid _ := hA
  clear hA
  go_wp2_with fail
  refine (T4.out _ HA.out).mono ?_
  rintro e w6 ⟨rfl, hw6⟩
  subst hw6
  go_wp2_with fail
  refine (T5.out _ HA.out).mono ?_
  rintro e w7 ⟨a7, c7, rfl, hr7, hA, ht⟩
  replace hb := turn_next hb ht hBl
  clear HA ht
  have HA : Hid _ := hA
  have HR7 := hide hr7
  clear hA hr7
  go_wp2_with fail
  refine (T6.out _ HA.out).mono ?_
  rintro e w8 ⟨a8, c8, rfl, hr8, hA, ht⟩
  replace hb := turn_next hb ht hBl
  replace HR7 := hide (owns_turn HA.out HR7.out ht)
  clear HA ht
  have HA : Hid _ := hA
  have HR8 := hide hr8
  clear hA hr8
  go_wp2_with fail
  refine (L1.out _ _ _ _ HR7.out).mono ?_
  rintro e w9 ⟨rfl, hb9⟩
  replace hb := below_next hb hb9
  replace HA := hide (AtW.below HA.out hb9)
  replace HR8 := hide (owns_below HR8.out hb9)
  clear hb9 HR7
  go_wp2_with fail
  refine (L2.out _ _ _ _ HR8.out).mono ?_
  rintro e w10 ⟨rfl, hb9⟩
  replace hb := below_next hb hb9
  replace HA := hide (AtW.below HA.out hb9)
  clear hb9 HR8
  go_wp2_with fail
  refine (T7.out _ HA.out).mono ?_
  rintro e w11 ⟨rfl, hA, ht⟩
  replace hb := turn_next hb ht hBl
  clear HA ht
  have HA : Hid _ := hA
  clear hA
  go_wp2_with fail
  refine (T8.out _ HA.out).mono ?_
  rintro e w12 ⟨rfl, hA, ht⟩
  replace hb := turn_next hb ht hBl
  clear HA ht hA
  go_wp2
  go_ret
  exact ⟨rfl, hb⟩

end Go.Proofs.Ytnciefdhgokffaa
