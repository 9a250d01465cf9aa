/-
  What the law BufferNone asks comes out true at any wake-up and any number.
-/
import Derived.Test.YtiookbmffdmdeaaAwake
namespace Go.Proofs.Ytiookbmffdmdeaa
open Go.RowKit

theorem put0 (x : Wk) : putB 0 [] x = false ∧ putL 0 [] x = [] := by
  have h : putB 0 [] x = false := by unfold putB; simp
  exact ⟨h, putL_no h⟩

set_option maxHeartbeats 4000000 in
theorem none_walk (x : Wk) (m : Int) (w : World) : Calls Try.prog 6 #[.agg #[.int .i64 x.t, .int .i64 x.e], .int .i64 m] w fun e w' => e = .returned (.bool true) ∧ Below w.heap.size w w' := by
  have ok0 : Ok 0 [] := Ok.nil (by omega)
  have N0 : Hid (∀ W : World, Calls Try.prog 7 #[.int .i64 0] W fun e w' => e = .returned (.pointer (some ⟨W.heap.size, 0, none⟩)) ∧ AtB w' W.heap.size 0 [] ∧ Below W.heap.size W w') := fun W => new_any 0 W
  have N1 : Hid (m < 0 → ∀ W : World, Calls Try.prog 7 #[.int .i64 m] W fun e w' => e = .returned (.pointer (some ⟨W.heap.size, 0, none⟩)) ∧ AtB w' W.heap.size 0 [] ∧ Below W.heap.size W w') := fun hm W => by
    have h := new_any m W
    have e : heldN m = 0 := by unfold heldN; omega
    rw [e] at h; exact h
  have PN : Hid (∀ W, Calls Try.prog 9 #[.pointer none, .agg #[.int .i64 x.t, .int .i64 x.e]] W fun e w' => e = .returned (.bool false) ∧ Below W.heap.size W w') := fun W => put_nil x W
  have P1 : Hid (∀ B W, AtB W B 0 [] → Calls Try.prog 9 #[.pointer (some ⟨B, 0, none⟩), .agg #[.int .i64 x.t, .int .i64 x.e]] W fun e w' => e = .returned (.bool false) ∧ Now B 0 [] W w') := fun B W h => by
    have := put_any B 0 [] x ok0 W h; rw [(put0 x).2, (put0 x).1] at this; exact this
  have D1 : Hid (∀ B W, AtB W B 0 [] → Calls Try.prog 13 #[.pointer (some ⟨B, 0, none⟩)] W fun e w' => e = .returned (.slice (some ⟨W.heap.size, 0, none⟩) 0 0) ∧ Now B 0 [] W w') := fun B W h => (deliver_any B 0 [] ok0 W h).mono fun e w' k => ⟨k.1, k.2.2⟩
  have L0 : Hid (∀ B W, AtB W B 0 [] → Calls Try.prog 11 #[.pointer (some ⟨B, 0, none⟩)] W fun e w' => e = .returned (.int .i64 0) ∧ w' = W) := fun B W h => len_any B 0 [] W h
  obtain ⟨x, y⟩ := x
  simp only at PN P1 ⊢
  clear ok0
  go_enter Try.func6, Try.ntmps6
  go_wp2_with fail
  have hb0 := below1 w (.cells #[.int .i64 x, .int .i64 y] 31)
  have x0 : (w.alloc (.cells #[.int .i64 x, .int .i64 y] 31)).cell? ⟨w.heap.size, 0, none⟩ = some (.int .i64 x) := Lib.cell_of_heap (heap_alloc_new _ _) 0
  have x1 : (w.alloc (.cells #[.int .i64 x, .int .i64 y] 31)).cell? ⟨w.heap.size, 1, none⟩ = some (.int .i64 y) := Lib.cell_of_heap (heap_alloc_new _ _) 1
  have hdl : w.heap.size < (w.alloc (.cells #[.int .i64 x, .int .i64 y] 31)).heap.size := by simp
  obtain ⟨d, hd⟩ : ∃ d, d = w.heap.size := ⟨_, rfl⟩
  obtain ⟨w0, hw0⟩ : ∃ w0, w0 = w.alloc (.cells #[.int .i64 x, .int .i64 y] 31) := ⟨_, rfl⟩
  rw [← hw0, ← hd] at hdl x0 x1 ⊢
  rw [← hw0] at hb0
  have HB0 := hide hb0
  have HK : Hid (∀ W', Below w0.heap.size w0 W' → W'.cell? ⟨d, 0, none⟩ = some (.int .i64 x) ∧ W'.cell? ⟨d, 1, none⟩ = some (.int .i64 y)) := fun W' k => ⟨(k.cell (p := ⟨d, 0, none⟩) hdl).trans x0, (k.cell (p := ⟨d, 1, none⟩) hdl).trans x1⟩
  clear hw0 hd hb0 x0 x1 hdl
  refine (PN.out _).mono ?_
  rintro e w1 ⟨rfl, hb⟩
  go_wp2_with fail
  refine (len_nil _).mono ?_
  rintro e w2 ⟨rfl, hw2⟩
  subst hw2
  go_wp2_with fail
  refine (deliver_nil _).mono ?_
  rintro e w3 ⟨rfl, hw3⟩
  subst hw3
  go_wp2_with fail
  refine (N0.out _).mono ?_
  rintro e w4 ⟨rfl, hA, hb4⟩
  have hz := hb.size
  obtain ⟨B, hB⟩ : ∃ B, B = w3.heap.size := ⟨_, rfl⟩
  rw [← hB] at hA ⊢
  have hBl : w0.heap.size ≤ B := by omega
  replace hb := below_next hb hb4
  have HA := hide hA
  clear hA hB N0 hb4 hz
  by_cases hm : m < 0
  · have N2 := hide (N1.out hm)
    clear N1
    go_wp2_with fail
    refine (N2.out _).mono ?_
    rintro e w5 ⟨rfl, hA, hb5⟩
    have hz := hb.size
    clear HA hBl
    obtain ⟨C, hB⟩ : ∃ C, C = w4.heap.size := ⟨_, rfl⟩
    rw [← hB] at hA ⊢
    have hBl : w0.heap.size ≤ C := by omega
    replace hb := below_next hb hb5
    have HA := hide hA
    clear hA hB N2 hb5 hz
    go_wp2_with fail
    refine (awake_any _).mono ?_
    rintro e w6 ⟨rfl, hb6⟩
    replace hb := below_next hb hb6
    replace HA := hide (AtB.below HA.out hb6)
    obtain ⟨x0, x1⟩ := HK.out _ hb
    clear hb6
    go_wp2_with fail
    refine (P1.out _ _ HA.out).mono ?_
    rintro e w7 ⟨rfl, hA, ht⟩
    replace hb := turn_next hb ht hBl
    replace HA := hide hA
    clear ht hA P1
    go_wp2_with fail
    refine (L0.out _ _ HA.out).mono ?_
    rintro e w8 ⟨rfl, hw8⟩
    subst hw8
    go_wp2_with fail
    refine (D1.out _ _ HA.out).mono ?_
    rintro e w9 ⟨rfl, hA, ht⟩
    replace hb := turn_next hb ht hBl
    clear ht hA
    go_wp2
    go_ret
    exact ⟨rfl, below_next HB0.out hb⟩
  · go_wp2_with fail
    refine (awake_any _).mono ?_
    rintro e w6 ⟨rfl, hb6⟩
    replace hb := below_next hb hb6
    replace HA := hide (AtB.below HA.out hb6)
    obtain ⟨x0, x1⟩ := HK.out _ hb
    clear hb6
    go_wp2_with fail
    refine (P1.out _ _ HA.out).mono ?_
    rintro e w7 ⟨rfl, hA, ht⟩
    replace hb := turn_next hb ht hBl
    replace HA := hide hA
    clear ht hA P1
    go_wp2_with fail
    refine (L0.out _ _ HA.out).mono ?_
    rintro e w8 ⟨rfl, hw8⟩
    subst hw8
    go_wp2_with fail
    refine (D1.out _ _ HA.out).mono ?_
    rintro e w9 ⟨rfl, hA, ht⟩
    replace hb := turn_next hb ht hBl
    clear ht hA
    go_wp2
    go_ret
    exact ⟨rfl, below_next HB0.out hb⟩

end Go.Proofs.Ytiookbmffdmdeaa
