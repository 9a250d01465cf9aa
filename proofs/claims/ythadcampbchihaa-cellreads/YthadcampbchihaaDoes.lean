/-
  What the law's own does comes to: an act of both, and what is left of both.
-/
import Derived.Test.YthadcampbchihaaBoth
import Derived.Deep.RegionHeld3
import Derived.Deep.DeepCutAuto
namespace Go.Proofs.Ythadcampbchihaa
open Go.RowKit

theorem ten {m : Nat} (h : m < 10) : m = 0 ∨ m = 1 ∨ m = 2 ∨ m = 3 ∨ m = 4 ∨ m = 5 ∨ m = 6 ∨ m = 7 ∨ m = 8 ∨ m = 9 := by omega

set_option maxRecDepth 20000 in
set_option maxHeartbeats 4000000 in
theorem does_0 (W0 : World) (M R : Nat) (s : Ws) (hO : Okw s) (d t i v : Int) (hd : d.tmod 10 = 0) (w : World) (h : Bth W0 M R none0 s s w) :
    Calls Try.prog 9 #[.pointer (some ⟨M, 0, none⟩), .pointer (some ⟨R, 0, none⟩), .agg #[.int .u8 d, .int .i64 t, .int .i64 i, .int .i64 v]] w fun e w' => e = .returned (.bool true) ∧ ∃ s2, Okw s2 ∧ Bth W0 M R none0 s2 s2 w' := by
  have HFIN : Hid (Okw (s)) := hide (hO)
  obtain ⟨b, hb⟩ : ∃ b, b = w.heap.size := ⟨_, rfl⟩
  have C1 := hide (fun W (k : Bth W0 M R (fun k => k = b) s s W) => x_start k.xs)
  have C2 := hide (fun W (k : Bth W0 M R (fun k => k = b) s s W) => r_start hO k)
  have HK : Hid (∀ W W', Kept (fun k => k = b) W W' → ∀ j, W'.cell? ⟨b, j, none⟩ = W.cell? ⟨b, j, none⟩) := hide fun W W' k j => World.cell?_of_block (k.1 b rfl)
  obtain ⟨w1, hw1⟩ : ∃ w1, w1 = w.alloc (.cells #[.int .u8 d, .int .i64 t, .int .i64 i, .int .i64 v] 29) := ⟨_, rfl⟩
  have HB1 : Hid (Bth W0 M R (fun k => k = b) s s w1) := hide (by rw [hw1, hb]; exact h.boxed _)
  have p0 : w1.cell? ⟨b, 0, none⟩ = some (.int .u8 d) := by rw [hw1, hb]; exact Lib.cell_of_heap (heap_alloc_new _ _) 0
  have p1 : w1.cell? ⟨b, 1, none⟩ = some (.int .i64 t) := by rw [hw1, hb]; exact Lib.cell_of_heap (heap_alloc_new _ _) 1
  have p2 : w1.cell? ⟨b, 2, none⟩ = some (.int .i64 i) := by rw [hw1, hb]; exact Lib.cell_of_heap (heap_alloc_new _ _) 2
  have p3 : w1.cell? ⟨b, 3, none⟩ = some (.int .i64 v) := by rw [hw1, hb]; exact Lib.cell_of_heap (heap_alloc_new _ _) 3
  have P1 := hide p1
  have P2 := hide p2
  have P3 := hide p3
  clear h hO
  generalize staN s = N at *
  generalize staE s = E0 at *
  have tt : (N == N) = true := by simp
  have tu : (E0 == E0) = true := by simp
  go_enter Try.func9, Try.ntmps9
  go_wp2_with fail
  rw [← hw1, ← hb]
  clear hw1 hb
  go_wp2_with fail
  refine (C1.out _ HB1.out).mono ?_
  rintro e w3 ⟨rfl, hw3⟩
  subst hw3
  clear C1
  go_wp2_with fail
  refine (C2.out _ HB1.out).mono ?_
  rintro e w4 ⟨rfl, hB4, _⟩
  have HB4 := hide hB4
  clear hB4 C2 HB1 p0 p1 p2 p3 P1 P2 P3 HK
  go_wp2
  go_ret
  exact ⟨by first | rfl | simp, _, HFIN.out, HB4.out.mono (fun _ h => h.elim)⟩

set_option maxRecDepth 20000 in
set_option maxHeartbeats 4000000 in
theorem does_1 (W0 : World) (M R : Nat) (s : Ws) (hO : Okw s) (d t i v : Int) (hd : d.tmod 10 = 1) (w : World) (h : Bth W0 M R none0 s s w) :
    Calls Try.prog 9 #[.pointer (some ⟨M, 0, none⟩), .pointer (some ⟨R, 0, none⟩), .agg #[.int .u8 d, .int .i64 t, .int .i64 i, .int .i64 v]] w fun e w' => e = .returned (.bool true) ∧ ∃ s2, Okw s2 ∧ Bth W0 M R none0 s2 s2 w' := by
  have HFIN : Hid (Okw (s)) := hide (hO)
  obtain ⟨b, hb⟩ : ∃ b, b = w.heap.size := ⟨_, rfl⟩
  have C1 := hide (fun W (k : Bth W0 M R (fun k => k = b) s s W) => x_word hO.l4 i k.xs)
  have C2 := hide (fun W (k : Bth W0 M R (fun k => k = b) s s W) => r_word i k)
  have HK : Hid (∀ W W', Kept (fun k => k = b) W W' → ∀ j, W'.cell? ⟨b, j, none⟩ = W.cell? ⟨b, j, none⟩) := hide fun W W' k j => World.cell?_of_block (k.1 b rfl)
  obtain ⟨w1, hw1⟩ : ∃ w1, w1 = w.alloc (.cells #[.int .u8 d, .int .i64 t, .int .i64 i, .int .i64 v] 29) := ⟨_, rfl⟩
  have HB1 : Hid (Bth W0 M R (fun k => k = b) s s w1) := hide (by rw [hw1, hb]; exact h.boxed _)
  have p0 : w1.cell? ⟨b, 0, none⟩ = some (.int .u8 d) := by rw [hw1, hb]; exact Lib.cell_of_heap (heap_alloc_new _ _) 0
  have p1 : w1.cell? ⟨b, 1, none⟩ = some (.int .i64 t) := by rw [hw1, hb]; exact Lib.cell_of_heap (heap_alloc_new _ _) 1
  have p2 : w1.cell? ⟨b, 2, none⟩ = some (.int .i64 i) := by rw [hw1, hb]; exact Lib.cell_of_heap (heap_alloc_new _ _) 2
  have p3 : w1.cell? ⟨b, 3, none⟩ = some (.int .i64 v) := by rw [hw1, hb]; exact Lib.cell_of_heap (heap_alloc_new _ _) 3
  have P1 := hide p1
  have P2 := hide p2
  have P3 := hide p3
  clear h hO
  generalize wrdN s.l i = N at *
  generalize wrdE s.l i = E0 at *
  have tt : (N == N) = true := by simp
  have tu : (E0 == E0) = true := by simp
  go_enter Try.func9, Try.ntmps9
  go_wp2_with fail
  rw [← hw1, ← hb]
  clear hw1 hb
  go_wp2_with fail
  refine (C1.out _ HB1.out).mono ?_
  rintro e w3 ⟨rfl, hw3⟩
  subst hw3
  clear C1
  go_wp2_with fail
  refine (C2.out _ HB1.out).mono ?_
  rintro e w4 ⟨rfl, hw4⟩
  subst hw4
  clear C2 p0 p1 p2 p3 P1 P2 P3 HK
  go_wp2
  go_ret
  exact ⟨by first | rfl | simp, _, HFIN.out, HB1.out.mono (fun _ h => h.elim)⟩

set_option maxRecDepth 20000 in
set_option maxHeartbeats 4000000 in
theorem does_2 (W0 : World) (M R : Nat) (s : Ws) (hO : Okw s) (d t i v : Int) (hd : d.tmod 10 = 2) (w : World) (h : Bth W0 M R none0 s s w) :
    Calls Try.prog 9 #[.pointer (some ⟨M, 0, none⟩), .pointer (some ⟨R, 0, none⟩), .agg #[.int .u8 d, .int .i64 t, .int .i64 i, .int .i64 v]] w fun e w' => e = .returned (.bool true) ∧ ∃ s2, Okw s2 ∧ Bth W0 M R none0 s2 s2 w' := by
  have HFIN : Hid (Okw (s)) := hide (hO)
  obtain ⟨b, hb⟩ : ∃ b, b = w.heap.size := ⟨_, rfl⟩
  have C1 : Hid (∀ W, Bth W0 M R (fun k => k = b) s s W → Calls Try.prog 16 #[.pointer (some ⟨M, 0, none⟩), .int .i64 v] W fun e w' => e = .returned (.int .i64 (samE s v)) ∧ Bth W0 M R (fun k => k = b) (s) s w' ∧ Kept (fun k => k = b) W w') := hide fun W k => (x_same v k.xs).mono fun e w' q => ⟨q.1, by rw [q.2]; exact k, by rw [q.2]; exact Kept.refl _ _⟩
  have C2 : Hid (∀ W, Bth W0 M R (fun k => k = b) (s) s W → Calls Try.prog 22 #[.pointer (some ⟨R, 0, none⟩), .int .i64 v] W fun e w' => e = .returned (.int .i64 (samE s v)) ∧ Bth W0 M R (fun k => k = b) (s) (s) w' ∧ Kept (fun k => k = b) W w') := hide fun W k => r_same hO v k
  have HK : Hid (∀ W W', Kept (fun k => k = b) W W' → ∀ j, W'.cell? ⟨b, j, none⟩ = W.cell? ⟨b, j, none⟩) := hide fun W W' k j => World.cell?_of_block (k.1 b rfl)
  obtain ⟨w1, hw1⟩ : ∃ w1, w1 = w.alloc (.cells #[.int .u8 d, .int .i64 t, .int .i64 i, .int .i64 v] 29) := ⟨_, rfl⟩
  have HB1 : Hid (Bth W0 M R (fun k => k = b) s s w1) := hide (by rw [hw1, hb]; exact h.boxed _)
  have p0 : w1.cell? ⟨b, 0, none⟩ = some (.int .u8 d) := by rw [hw1, hb]; exact Lib.cell_of_heap (heap_alloc_new _ _) 0
  have p1 : w1.cell? ⟨b, 1, none⟩ = some (.int .i64 t) := by rw [hw1, hb]; exact Lib.cell_of_heap (heap_alloc_new _ _) 1
  have p2 : w1.cell? ⟨b, 2, none⟩ = some (.int .i64 i) := by rw [hw1, hb]; exact Lib.cell_of_heap (heap_alloc_new _ _) 2
  have p3 : w1.cell? ⟨b, 3, none⟩ = some (.int .i64 v) := by rw [hw1, hb]; exact Lib.cell_of_heap (heap_alloc_new _ _) 3
  have P1 := hide p1
  have P2 := hide p2
  have P3 := hide p3
  clear h hO
  generalize samE s v = E0 at *
  have tt : (E0 == E0) = true := by simp
  go_enter Try.func9, Try.ntmps9
  go_wp2_with fail
  rw [← hw1, ← hb]
  clear hw1 hb
  go_wp2_with fail
  go_region_held3 (fun w' => w'.cell? ⟨b, 3, none⟩ = some (.int .i64 v)) (first | assumption | go_keep) (first | (go_at_call 16; refine (C1.out _ HB1.out.drew).mono ?_; rintro e w3 ⟨rfl, hB3, hk3⟩; have z33 : w3.cell? ⟨b, 3, none⟩ = some (.int .i64 v) := (HK.out _ _ hk3 3).trans P3.out) | (go_at_call 22; refine (C2.out _ hB3).mono ?_; rintro e w4 ⟨rfl, hB4, hk4⟩; have z43 : w4.cell? ⟨b, 3, none⟩ = some (.int .i64 v) := (HK.out _ _ hk4 3).trans z33))
  have HB4 := hide hB4
  clear hB4 hB3 hk3 hk4 z33 z43 HB1 C1 C2 HK P1 P2 P3
  go_wp2
  go_ret
  exact ⟨by first | rfl | simp, _, HFIN.out, HB4.out.mono (fun _ h => h.elim)⟩

set_option maxRecDepth 20000 in
set_option maxHeartbeats 4000000 in
theorem does_3 (W0 : World) (M R : Nat) (s : Ws) (hO : Okw s) (d t i v : Int) (hd : d.tmod 10 = 3) (w : World) (h : Bth W0 M R none0 s s w) :
    Calls Try.prog 9 #[.pointer (some ⟨M, 0, none⟩), .pointer (some ⟨R, 0, none⟩), .agg #[.int .u8 d, .int .i64 t, .int .i64 i, .int .i64 v]] w fun e w' => e = .returned (.bool true) ∧ ∃ s2, Okw s2 ∧ Bth W0 M R none0 s2 s2 w' := by
  have HFIN : Hid (Okw (begS s t)) := hide (hO.beg t)
  obtain ⟨b, hb⟩ : ∃ b, b = w.heap.size := ⟨_, rfl⟩
  have C1 : Hid (∀ W, Bth W0 M R (fun k => k = b) s s W → Calls Try.prog 17 #[.pointer (some ⟨M, 0, none⟩), .int .i64 t] W fun e w' => e = .returned (.int .i64 (begE s t)) ∧ Bth W0 M R (fun k => k = b) (begS s t) s w' ∧ Kept (fun k => k = b) W w') := hide fun W k => b_begin hO t k
  have C2 : Hid (∀ W, Bth W0 M R (fun k => k = b) (begS s t) s W → Calls Try.prog 23 #[.pointer (some ⟨R, 0, none⟩), .int .i64 t] W fun e w' => e = .returned (.int .i64 (begE s t)) ∧ Bth W0 M R (fun k => k = b) (begS s t) (begS s t) w' ∧ Kept (fun k => k = b) W w') := hide fun W k => r_begin hO t k
  have HK : Hid (∀ W W', Kept (fun k => k = b) W W' → ∀ j, W'.cell? ⟨b, j, none⟩ = W.cell? ⟨b, j, none⟩) := hide fun W W' k j => World.cell?_of_block (k.1 b rfl)
  obtain ⟨w1, hw1⟩ : ∃ w1, w1 = w.alloc (.cells #[.int .u8 d, .int .i64 t, .int .i64 i, .int .i64 v] 29) := ⟨_, rfl⟩
  have HB1 : Hid (Bth W0 M R (fun k => k = b) s s w1) := hide (by rw [hw1, hb]; exact h.boxed _)
  have p0 : w1.cell? ⟨b, 0, none⟩ = some (.int .u8 d) := by rw [hw1, hb]; exact Lib.cell_of_heap (heap_alloc_new _ _) 0
  have p1 : w1.cell? ⟨b, 1, none⟩ = some (.int .i64 t) := by rw [hw1, hb]; exact Lib.cell_of_heap (heap_alloc_new _ _) 1
  have p2 : w1.cell? ⟨b, 2, none⟩ = some (.int .i64 i) := by rw [hw1, hb]; exact Lib.cell_of_heap (heap_alloc_new _ _) 2
  have p3 : w1.cell? ⟨b, 3, none⟩ = some (.int .i64 v) := by rw [hw1, hb]; exact Lib.cell_of_heap (heap_alloc_new _ _) 3
  have P1 := hide p1
  have P2 := hide p2
  have P3 := hide p3
  clear h hO
  generalize begS s t = s2 at *
  generalize begE s t = E0 at *
  have tt : (E0 == E0) = true := by simp
  go_enter Try.func9, Try.ntmps9
  go_wp2_with fail
  rw [← hw1, ← hb]
  clear hw1 hb
  go_wp2_with fail
  go_region_held3 (fun w' => w'.cell? ⟨b, 1, none⟩ = some (.int .i64 t)) (first | assumption | go_keep) (first | (go_at_call 17; refine (C1.out _ HB1.out.drew).mono ?_; rintro e w3 ⟨rfl, hB3, hk3⟩; have z31 : w3.cell? ⟨b, 1, none⟩ = some (.int .i64 t) := (HK.out _ _ hk3 1).trans P1.out) | (go_at_call 23; refine (C2.out _ hB3).mono ?_; rintro e w4 ⟨rfl, hB4, hk4⟩; have z41 : w4.cell? ⟨b, 1, none⟩ = some (.int .i64 t) := (HK.out _ _ hk4 1).trans z31))
  have HB4 := hide hB4
  clear hB4 hB3 hk3 hk4 z31 z41 HB1 C1 C2 HK P1 P2 P3
  go_wp2
  go_ret
  exact ⟨by first | rfl | simp, _, HFIN.out, HB4.out.mono (fun _ h => h.elim)⟩

set_option maxRecDepth 20000 in
set_option maxHeartbeats 4000000 in
theorem does_4 (W0 : World) (M R : Nat) (s : Ws) (hO : Okw s) (d t i v : Int) (hd : d.tmod 10 = 4) (w : World) (h : Bth W0 M R none0 s s w) :
    Calls Try.prog 9 #[.pointer (some ⟨M, 0, none⟩), .pointer (some ⟨R, 0, none⟩), .agg #[.int .u8 d, .int .i64 t, .int .i64 i, .int .i64 v]] w fun e w' => e = .returned (.bool true) ∧ ∃ s2, Okw s2 ∧ Bth W0 M R none0 s2 s2 w' := by
  have HFIN : Hid (Okw (begS s t)) := hide (hO.beg t)
  obtain ⟨b, hb⟩ : ∃ b, b = w.heap.size := ⟨_, rfl⟩
  have C1 : Hid (∀ W, Bth W0 M R (fun k => k = b) s s W → Calls Try.prog 17 #[.pointer (some ⟨M, 0, none⟩), .int .i64 t] W fun e w' => e = .returned (.int .i64 (begE s t)) ∧ Bth W0 M R (fun k => k = b) (begS s t) s w' ∧ Kept (fun k => k = b) W w') := hide fun W k => b_begin hO t k
  have C2 : Hid (∀ W, Bth W0 M R (fun k => k = b) (begS s t) s W → Calls Try.prog 23 #[.pointer (some ⟨R, 0, none⟩), .int .i64 t] W fun e w' => e = .returned (.int .i64 (begE s t)) ∧ Bth W0 M R (fun k => k = b) (begS s t) (begS s t) w' ∧ Kept (fun k => k = b) W w') := hide fun W k => r_begin hO t k
  have HK : Hid (∀ W W', Kept (fun k => k = b) W W' → ∀ j, W'.cell? ⟨b, j, none⟩ = W.cell? ⟨b, j, none⟩) := hide fun W W' k j => World.cell?_of_block (k.1 b rfl)
  obtain ⟨w1, hw1⟩ : ∃ w1, w1 = w.alloc (.cells #[.int .u8 d, .int .i64 t, .int .i64 i, .int .i64 v] 29) := ⟨_, rfl⟩
  have HB1 : Hid (Bth W0 M R (fun k => k = b) s s w1) := hide (by rw [hw1, hb]; exact h.boxed _)
  have p0 : w1.cell? ⟨b, 0, none⟩ = some (.int .u8 d) := by rw [hw1, hb]; exact Lib.cell_of_heap (heap_alloc_new _ _) 0
  have p1 : w1.cell? ⟨b, 1, none⟩ = some (.int .i64 t) := by rw [hw1, hb]; exact Lib.cell_of_heap (heap_alloc_new _ _) 1
  have p2 : w1.cell? ⟨b, 2, none⟩ = some (.int .i64 i) := by rw [hw1, hb]; exact Lib.cell_of_heap (heap_alloc_new _ _) 2
  have p3 : w1.cell? ⟨b, 3, none⟩ = some (.int .i64 v) := by rw [hw1, hb]; exact Lib.cell_of_heap (heap_alloc_new _ _) 3
  have P1 := hide p1
  have P2 := hide p2
  have P3 := hide p3
  clear h hO
  generalize begS s t = s2 at *
  generalize begE s t = E0 at *
  have tt : (E0 == E0) = true := by simp
  go_enter Try.func9, Try.ntmps9
  go_wp2_with fail
  rw [← hw1, ← hb]
  clear hw1 hb
  go_wp2_with fail
  go_region_held3 (fun w' => w'.cell? ⟨b, 1, none⟩ = some (.int .i64 t)) (first | assumption | go_keep) (first | (go_at_call 17; refine (C1.out _ HB1.out.drew).mono ?_; rintro e w3 ⟨rfl, hB3, hk3⟩; have z31 : w3.cell? ⟨b, 1, none⟩ = some (.int .i64 t) := (HK.out _ _ hk3 1).trans P1.out) | (go_at_call 23; refine (C2.out _ hB3).mono ?_; rintro e w4 ⟨rfl, hB4, hk4⟩; have z41 : w4.cell? ⟨b, 1, none⟩ = some (.int .i64 t) := (HK.out _ _ hk4 1).trans z31))
  have HB4 := hide hB4
  clear hB4 hB3 hk3 hk4 z31 z41 HB1 C1 C2 HK P1 P2 P3
  go_wp2
  go_ret
  exact ⟨by first | rfl | simp, _, HFIN.out, HB4.out.mono (fun _ h => h.elim)⟩

set_option maxRecDepth 20000 in
set_option maxHeartbeats 4000000 in
theorem does_5 (W0 : World) (M R : Nat) (s : Ws) (hO : Okw s) (d t i v : Int) (hd : d.tmod 10 = 5) (w : World) (h : Bth W0 M R none0 s s w) :
    Calls Try.prog 9 #[.pointer (some ⟨M, 0, none⟩), .pointer (some ⟨R, 0, none⟩), .agg #[.int .u8 d, .int .i64 t, .int .i64 i, .int .i64 v]] w fun e w' => e = .returned (.bool true) ∧ ∃ s2, Okw s2 ∧ Bth W0 M R none0 s2 s2 w' := by
  have HFIN : Hid (Okw (endS s t)) := hide (hO.fin t)
  obtain ⟨b, hb⟩ : ∃ b, b = w.heap.size := ⟨_, rfl⟩
  have C1 : Hid (∀ W, Bth W0 M R (fun k => k = b) s s W → Calls Try.prog 19 #[.pointer (some ⟨M, 0, none⟩), .int .i64 t] W fun e w' => e = .returned (.int .i64 (endE s t)) ∧ Bth W0 M R (fun k => k = b) (endS s t) s w' ∧ Kept (fun k => k = b) W w') := hide fun W k => b_end hO t k
  have C2 : Hid (∀ W, Bth W0 M R (fun k => k = b) (endS s t) s W → Calls Try.prog 24 #[.pointer (some ⟨R, 0, none⟩), .int .i64 t] W fun e w' => e = .returned (.int .i64 (endE s t)) ∧ Bth W0 M R (fun k => k = b) (endS s t) (endS s t) w' ∧ Kept (fun k => k = b) W w') := hide fun W k => r_end hO t k
  have HK : Hid (∀ W W', Kept (fun k => k = b) W W' → ∀ j, W'.cell? ⟨b, j, none⟩ = W.cell? ⟨b, j, none⟩) := hide fun W W' k j => World.cell?_of_block (k.1 b rfl)
  obtain ⟨w1, hw1⟩ : ∃ w1, w1 = w.alloc (.cells #[.int .u8 d, .int .i64 t, .int .i64 i, .int .i64 v] 29) := ⟨_, rfl⟩
  have HB1 : Hid (Bth W0 M R (fun k => k = b) s s w1) := hide (by rw [hw1, hb]; exact h.boxed _)
  have p0 : w1.cell? ⟨b, 0, none⟩ = some (.int .u8 d) := by rw [hw1, hb]; exact Lib.cell_of_heap (heap_alloc_new _ _) 0
  have p1 : w1.cell? ⟨b, 1, none⟩ = some (.int .i64 t) := by rw [hw1, hb]; exact Lib.cell_of_heap (heap_alloc_new _ _) 1
  have p2 : w1.cell? ⟨b, 2, none⟩ = some (.int .i64 i) := by rw [hw1, hb]; exact Lib.cell_of_heap (heap_alloc_new _ _) 2
  have p3 : w1.cell? ⟨b, 3, none⟩ = some (.int .i64 v) := by rw [hw1, hb]; exact Lib.cell_of_heap (heap_alloc_new _ _) 3
  have P1 := hide p1
  have P2 := hide p2
  have P3 := hide p3
  clear h hO
  generalize endS s t = s2 at *
  generalize endE s t = E0 at *
  have tt : (E0 == E0) = true := by simp
  go_enter Try.func9, Try.ntmps9
  go_wp2_with fail
  rw [← hw1, ← hb]
  clear hw1 hb
  go_wp2_with fail
  go_region_held3 (fun w' => w'.cell? ⟨b, 1, none⟩ = some (.int .i64 t)) (first | assumption | go_keep) (first | (go_at_call 19; refine (C1.out _ HB1.out.drew).mono ?_; rintro e w3 ⟨rfl, hB3, hk3⟩; have z31 : w3.cell? ⟨b, 1, none⟩ = some (.int .i64 t) := (HK.out _ _ hk3 1).trans P1.out) | (go_at_call 24; refine (C2.out _ hB3).mono ?_; rintro e w4 ⟨rfl, hB4, hk4⟩; have z41 : w4.cell? ⟨b, 1, none⟩ = some (.int .i64 t) := (HK.out _ _ hk4 1).trans z31))
  have HB4 := hide hB4
  clear hB4 hB3 hk3 hk4 z31 z41 HB1 C1 C2 HK P1 P2 P3
  go_wp2
  go_ret
  exact ⟨by first | rfl | simp, _, HFIN.out, HB4.out.mono (fun _ h => h.elim)⟩

set_option maxRecDepth 20000 in
set_option maxHeartbeats 4000000 in
theorem does_6 (W0 : World) (M R : Nat) (s : Ws) (hO : Okw s) (d t i v : Int) (hd : d.tmod 10 = 6) (w : World) (h : Bth W0 M R none0 s s w) :
    Calls Try.prog 9 #[.pointer (some ⟨M, 0, none⟩), .pointer (some ⟨R, 0, none⟩), .agg #[.int .u8 d, .int .i64 t, .int .i64 i, .int .i64 v]] w fun e w' => e = .returned (.bool true) ∧ ∃ s2, Okw s2 ∧ Bth W0 M R none0 s2 s2 w' := by
  have HFIN : Hid (Okw (endS s t)) := hide (hO.fin t)
  obtain ⟨b, hb⟩ : ∃ b, b = w.heap.size := ⟨_, rfl⟩
  have C1 : Hid (∀ W, Bth W0 M R (fun k => k = b) s s W → Calls Try.prog 19 #[.pointer (some ⟨M, 0, none⟩), .int .i64 t] W fun e w' => e = .returned (.int .i64 (endE s t)) ∧ Bth W0 M R (fun k => k = b) (endS s t) s w' ∧ Kept (fun k => k = b) W w') := hide fun W k => b_end hO t k
  have C2 : Hid (∀ W, Bth W0 M R (fun k => k = b) (endS s t) s W → Calls Try.prog 24 #[.pointer (some ⟨R, 0, none⟩), .int .i64 t] W fun e w' => e = .returned (.int .i64 (endE s t)) ∧ Bth W0 M R (fun k => k = b) (endS s t) (endS s t) w' ∧ Kept (fun k => k = b) W w') := hide fun W k => r_end hO t k
  have HK : Hid (∀ W W', Kept (fun k => k = b) W W' → ∀ j, W'.cell? ⟨b, j, none⟩ = W.cell? ⟨b, j, none⟩) := hide fun W W' k j => World.cell?_of_block (k.1 b rfl)
  obtain ⟨w1, hw1⟩ : ∃ w1, w1 = w.alloc (.cells #[.int .u8 d, .int .i64 t, .int .i64 i, .int .i64 v] 29) := ⟨_, rfl⟩
  have HB1 : Hid (Bth W0 M R (fun k => k = b) s s w1) := hide (by rw [hw1, hb]; exact h.boxed _)
  have p0 : w1.cell? ⟨b, 0, none⟩ = some (.int .u8 d) := by rw [hw1, hb]; exact Lib.cell_of_heap (heap_alloc_new _ _) 0
  have p1 : w1.cell? ⟨b, 1, none⟩ = some (.int .i64 t) := by rw [hw1, hb]; exact Lib.cell_of_heap (heap_alloc_new _ _) 1
  have p2 : w1.cell? ⟨b, 2, none⟩ = some (.int .i64 i) := by rw [hw1, hb]; exact Lib.cell_of_heap (heap_alloc_new _ _) 2
  have p3 : w1.cell? ⟨b, 3, none⟩ = some (.int .i64 v) := by rw [hw1, hb]; exact Lib.cell_of_heap (heap_alloc_new _ _) 3
  have P1 := hide p1
  have P2 := hide p2
  have P3 := hide p3
  clear h hO
  generalize endS s t = s2 at *
  generalize endE s t = E0 at *
  have tt : (E0 == E0) = true := by simp
  go_enter Try.func9, Try.ntmps9
  go_wp2_with fail
  rw [← hw1, ← hb]
  clear hw1 hb
  go_wp2_with fail
  go_region_held3 (fun w' => w'.cell? ⟨b, 1, none⟩ = some (.int .i64 t)) (first | assumption | go_keep) (first | (go_at_call 19; refine (C1.out _ HB1.out.drew).mono ?_; rintro e w3 ⟨rfl, hB3, hk3⟩; have z31 : w3.cell? ⟨b, 1, none⟩ = some (.int .i64 t) := (HK.out _ _ hk3 1).trans P1.out) | (go_at_call 24; refine (C2.out _ hB3).mono ?_; rintro e w4 ⟨rfl, hB4, hk4⟩; have z41 : w4.cell? ⟨b, 1, none⟩ = some (.int .i64 t) := (HK.out _ _ hk4 1).trans z31))
  have HB4 := hide hB4
  clear hB4 hB3 hk3 hk4 z31 z41 HB1 C1 C2 HK P1 P2 P3
  go_wp2
  go_ret
  exact ⟨by first | rfl | simp, _, HFIN.out, HB4.out.mono (fun _ h => h.elim)⟩

set_option maxRecDepth 20000 in
set_option maxHeartbeats 4000000 in
theorem does_7 (W0 : World) (M R : Nat) (s : Ws) (hO : Okw s) (d t i v : Int) (hd : d.tmod 10 = 7) (w : World) (h : Bth W0 M R none0 s s w) :
    Calls Try.prog 9 #[.pointer (some ⟨M, 0, none⟩), .pointer (some ⟨R, 0, none⟩), .agg #[.int .u8 d, .int .i64 t, .int .i64 i, .int .i64 v]] w fun e w' => e = .returned (.bool true) ∧ ∃ s2, Okw s2 ∧ Bth W0 M R none0 s2 s2 w' := by
  have HFIN : Hid (Okw (putS s t i v)) := hide (hO.put t i v)
  obtain ⟨b, hb⟩ : ∃ b, b = w.heap.size := ⟨_, rfl⟩
  have C1 : Hid (∀ W, Bth W0 M R (fun k => k = b) s s W → Calls Try.prog 18 #[.pointer (some ⟨M, 0, none⟩), .int .i64 t, .int .i64 i, .int .i64 v] W fun e w' => e = .returned (.int .i64 (putE s t i)) ∧ Bth W0 M R (fun k => k = b) (putS s t i v) s w' ∧ Kept (fun k => k = b) W w') := hide fun W k => b_put hO.l4 t i v k
  have C2 : Hid (∀ W, Bth W0 M R (fun k => k = b) (putS s t i v) s W → Calls Try.prog 25 #[.pointer (some ⟨R, 0, none⟩), .int .i64 t, .int .i64 i, .int .i64 v] W fun e w' => e = .returned (.int .i64 (putE s t i)) ∧ Bth W0 M R (fun k => k = b) (putS s t i v) (putS s t i v) w' ∧ Kept (fun k => k = b) W w') := hide fun W k => r_put hO t i v k
  have HK : Hid (∀ W W', Kept (fun k => k = b) W W' → ∀ j, W'.cell? ⟨b, j, none⟩ = W.cell? ⟨b, j, none⟩) := hide fun W W' k j => World.cell?_of_block (k.1 b rfl)
  obtain ⟨w1, hw1⟩ : ∃ w1, w1 = w.alloc (.cells #[.int .u8 d, .int .i64 t, .int .i64 i, .int .i64 v] 29) := ⟨_, rfl⟩
  have HB1 : Hid (Bth W0 M R (fun k => k = b) s s w1) := hide (by rw [hw1, hb]; exact h.boxed _)
  have p0 : w1.cell? ⟨b, 0, none⟩ = some (.int .u8 d) := by rw [hw1, hb]; exact Lib.cell_of_heap (heap_alloc_new _ _) 0
  have p1 : w1.cell? ⟨b, 1, none⟩ = some (.int .i64 t) := by rw [hw1, hb]; exact Lib.cell_of_heap (heap_alloc_new _ _) 1
  have p2 : w1.cell? ⟨b, 2, none⟩ = some (.int .i64 i) := by rw [hw1, hb]; exact Lib.cell_of_heap (heap_alloc_new _ _) 2
  have p3 : w1.cell? ⟨b, 3, none⟩ = some (.int .i64 v) := by rw [hw1, hb]; exact Lib.cell_of_heap (heap_alloc_new _ _) 3
  have P1 := hide p1
  have P2 := hide p2
  have P3 := hide p3
  clear h hO
  generalize putS s t i v = s2 at *
  generalize putE s t i = E0 at *
  have tt : (E0 == E0) = true := by simp
  go_enter Try.func9, Try.ntmps9
  go_wp2_with fail
  rw [← hw1, ← hb]
  clear hw1 hb
  go_wp2_with fail
  go_region_held3 (fun w' => w'.cell? ⟨b, 1, none⟩ = some (.int .i64 t) ∧ w'.cell? ⟨b, 2, none⟩ = some (.int .i64 i) ∧ w'.cell? ⟨b, 3, none⟩ = some (.int .i64 v)) (first | (refine ⟨?_, ?_, ?_⟩ <;> assumption) | go_keep) (first | (go_at_call 18; refine (C1.out _ HB1.out.drew).mono ?_; rintro e w3 ⟨rfl, hB3, hk3⟩; have z31 : w3.cell? ⟨b, 1, none⟩ = some (.int .i64 t) := (HK.out _ _ hk3 1).trans P1.out; have z32 : w3.cell? ⟨b, 2, none⟩ = some (.int .i64 i) := (HK.out _ _ hk3 2).trans P2.out; have z33 : w3.cell? ⟨b, 3, none⟩ = some (.int .i64 v) := (HK.out _ _ hk3 3).trans P3.out) | (go_at_call 25; refine (C2.out _ hB3).mono ?_; rintro e w4 ⟨rfl, hB4, hk4⟩; have z41 : w4.cell? ⟨b, 1, none⟩ = some (.int .i64 t) := (HK.out _ _ hk4 1).trans z31; have z42 : w4.cell? ⟨b, 2, none⟩ = some (.int .i64 i) := (HK.out _ _ hk4 2).trans z32; have z43 : w4.cell? ⟨b, 3, none⟩ = some (.int .i64 v) := (HK.out _ _ hk4 3).trans z33))
  have HB4 := hide hB4
  clear hB4 hB3 hk3 hk4 z31 z41 z32 z42 z33 z43 HB1 C1 C2 HK P1 P2 P3
  go_wp2
  go_ret
  exact ⟨by first | rfl | simp, _, HFIN.out, HB4.out.mono (fun _ h => h.elim)⟩

set_option maxRecDepth 20000 in
set_option maxHeartbeats 4000000 in
theorem does_8 (W0 : World) (M R : Nat) (s : Ws) (hO : Okw s) (d t i v : Int) (hd : d.tmod 10 = 8) (w : World) (h : Bth W0 M R none0 s s w) :
    Calls Try.prog 9 #[.pointer (some ⟨M, 0, none⟩), .pointer (some ⟨R, 0, none⟩), .agg #[.int .u8 d, .int .i64 t, .int .i64 i, .int .i64 v]] w fun e w' => e = .returned (.bool true) ∧ ∃ s2, Okw s2 ∧ Bth W0 M R none0 s2 s2 w' := by
  have HFIN : Hid (Okw (putS s t i v)) := hide (hO.put t i v)
  obtain ⟨b, hb⟩ : ∃ b, b = w.heap.size := ⟨_, rfl⟩
  have C1 : Hid (∀ W, Bth W0 M R (fun k => k = b) s s W → Calls Try.prog 18 #[.pointer (some ⟨M, 0, none⟩), .int .i64 t, .int .i64 i, .int .i64 v] W fun e w' => e = .returned (.int .i64 (putE s t i)) ∧ Bth W0 M R (fun k => k = b) (putS s t i v) s w' ∧ Kept (fun k => k = b) W w') := hide fun W k => b_put hO.l4 t i v k
  have C2 : Hid (∀ W, Bth W0 M R (fun k => k = b) (putS s t i v) s W → Calls Try.prog 25 #[.pointer (some ⟨R, 0, none⟩), .int .i64 t, .int .i64 i, .int .i64 v] W fun e w' => e = .returned (.int .i64 (putE s t i)) ∧ Bth W0 M R (fun k => k = b) (putS s t i v) (putS s t i v) w' ∧ Kept (fun k => k = b) W w') := hide fun W k => r_put hO t i v k
  have HK : Hid (∀ W W', Kept (fun k => k = b) W W' → ∀ j, W'.cell? ⟨b, j, none⟩ = W.cell? ⟨b, j, none⟩) := hide fun W W' k j => World.cell?_of_block (k.1 b rfl)
  obtain ⟨w1, hw1⟩ : ∃ w1, w1 = w.alloc (.cells #[.int .u8 d, .int .i64 t, .int .i64 i, .int .i64 v] 29) := ⟨_, rfl⟩
  have HB1 : Hid (Bth W0 M R (fun k => k = b) s s w1) := hide (by rw [hw1, hb]; exact h.boxed _)
  have p0 : w1.cell? ⟨b, 0, none⟩ = some (.int .u8 d) := by rw [hw1, hb]; exact Lib.cell_of_heap (heap_alloc_new _ _) 0
  have p1 : w1.cell? ⟨b, 1, none⟩ = some (.int .i64 t) := by rw [hw1, hb]; exact Lib.cell_of_heap (heap_alloc_new _ _) 1
  have p2 : w1.cell? ⟨b, 2, none⟩ = some (.int .i64 i) := by rw [hw1, hb]; exact Lib.cell_of_heap (heap_alloc_new _ _) 2
  have p3 : w1.cell? ⟨b, 3, none⟩ = some (.int .i64 v) := by rw [hw1, hb]; exact Lib.cell_of_heap (heap_alloc_new _ _) 3
  have P1 := hide p1
  have P2 := hide p2
  have P3 := hide p3
  clear h hO
  generalize putS s t i v = s2 at *
  generalize putE s t i = E0 at *
  have tt : (E0 == E0) = true := by simp
  go_enter Try.func9, Try.ntmps9
  go_wp2_with fail
  rw [← hw1, ← hb]
  clear hw1 hb
  go_wp2_with fail
  go_region_held3 (fun w' => w'.cell? ⟨b, 1, none⟩ = some (.int .i64 t) ∧ w'.cell? ⟨b, 2, none⟩ = some (.int .i64 i) ∧ w'.cell? ⟨b, 3, none⟩ = some (.int .i64 v)) (first | (refine ⟨?_, ?_, ?_⟩ <;> assumption) | go_keep) (first | (go_at_call 18; refine (C1.out _ HB1.out.drew).mono ?_; rintro e w3 ⟨rfl, hB3, hk3⟩; have z31 : w3.cell? ⟨b, 1, none⟩ = some (.int .i64 t) := (HK.out _ _ hk3 1).trans P1.out; have z32 : w3.cell? ⟨b, 2, none⟩ = some (.int .i64 i) := (HK.out _ _ hk3 2).trans P2.out; have z33 : w3.cell? ⟨b, 3, none⟩ = some (.int .i64 v) := (HK.out _ _ hk3 3).trans P3.out) | (go_at_call 25; refine (C2.out _ hB3).mono ?_; rintro e w4 ⟨rfl, hB4, hk4⟩; have z41 : w4.cell? ⟨b, 1, none⟩ = some (.int .i64 t) := (HK.out _ _ hk4 1).trans z31; have z42 : w4.cell? ⟨b, 2, none⟩ = some (.int .i64 i) := (HK.out _ _ hk4 2).trans z32; have z43 : w4.cell? ⟨b, 3, none⟩ = some (.int .i64 v) := (HK.out _ _ hk4 3).trans z33))
  have HB4 := hide hB4
  clear hB4 hB3 hk3 hk4 z31 z41 z32 z42 z33 z43 HB1 C1 C2 HK P1 P2 P3
  go_wp2
  go_ret
  exact ⟨by first | rfl | simp, _, HFIN.out, HB4.out.mono (fun _ h => h.elim)⟩

set_option maxRecDepth 20000 in
set_option maxHeartbeats 4000000 in
theorem does_9 (W0 : World) (M R : Nat) (s : Ws) (hO : Okw s) (d t i v : Int) (hd : d.tmod 10 = 9) (w : World) (h : Bth W0 M R none0 s s w) :
    Calls Try.prog 9 #[.pointer (some ⟨M, 0, none⟩), .pointer (some ⟨R, 0, none⟩), .agg #[.int .u8 d, .int .i64 t, .int .i64 i, .int .i64 v]] w fun e w' => e = .returned (.bool true) ∧ ∃ s2, Okw s2 ∧ Bth W0 M R none0 s2 s2 w' := by
  have HFIN : Hid (Okw (putS s t i v)) := hide (hO.put t i v)
  obtain ⟨b, hb⟩ : ∃ b, b = w.heap.size := ⟨_, rfl⟩
  have C1 : Hid (∀ W, Bth W0 M R (fun k => k = b) s s W → Calls Try.prog 18 #[.pointer (some ⟨M, 0, none⟩), .int .i64 t, .int .i64 i, .int .i64 v] W fun e w' => e = .returned (.int .i64 (putE s t i)) ∧ Bth W0 M R (fun k => k = b) (putS s t i v) s w' ∧ Kept (fun k => k = b) W w') := hide fun W k => b_put hO.l4 t i v k
  have C2 : Hid (∀ W, Bth W0 M R (fun k => k = b) (putS s t i v) s W → Calls Try.prog 25 #[.pointer (some ⟨R, 0, none⟩), .int .i64 t, .int .i64 i, .int .i64 v] W fun e w' => e = .returned (.int .i64 (putE s t i)) ∧ Bth W0 M R (fun k => k = b) (putS s t i v) (putS s t i v) w' ∧ Kept (fun k => k = b) W w') := hide fun W k => r_put hO t i v k
  have HK : Hid (∀ W W', Kept (fun k => k = b) W W' → ∀ j, W'.cell? ⟨b, j, none⟩ = W.cell? ⟨b, j, none⟩) := hide fun W W' k j => World.cell?_of_block (k.1 b rfl)
  obtain ⟨w1, hw1⟩ : ∃ w1, w1 = w.alloc (.cells #[.int .u8 d, .int .i64 t, .int .i64 i, .int .i64 v] 29) := ⟨_, rfl⟩
  have HB1 : Hid (Bth W0 M R (fun k => k = b) s s w1) := hide (by rw [hw1, hb]; exact h.boxed _)
  have p0 : w1.cell? ⟨b, 0, none⟩ = some (.int .u8 d) := by rw [hw1, hb]; exact Lib.cell_of_heap (heap_alloc_new _ _) 0
  have p1 : w1.cell? ⟨b, 1, none⟩ = some (.int .i64 t) := by rw [hw1, hb]; exact Lib.cell_of_heap (heap_alloc_new _ _) 1
  have p2 : w1.cell? ⟨b, 2, none⟩ = some (.int .i64 i) := by rw [hw1, hb]; exact Lib.cell_of_heap (heap_alloc_new _ _) 2
  have p3 : w1.cell? ⟨b, 3, none⟩ = some (.int .i64 v) := by rw [hw1, hb]; exact Lib.cell_of_heap (heap_alloc_new _ _) 3
  have P1 := hide p1
  have P2 := hide p2
  have P3 := hide p3
  clear h hO
  generalize putS s t i v = s2 at *
  generalize putE s t i = E0 at *
  have tt : (E0 == E0) = true := by simp
  go_enter Try.func9, Try.ntmps9
  go_wp2_with fail
  rw [← hw1, ← hb]
  clear hw1 hb
  go_wp2_with fail
  go_region_held3 (fun w' => w'.cell? ⟨b, 1, none⟩ = some (.int .i64 t) ∧ w'.cell? ⟨b, 2, none⟩ = some (.int .i64 i) ∧ w'.cell? ⟨b, 3, none⟩ = some (.int .i64 v)) (first | (refine ⟨?_, ?_, ?_⟩ <;> assumption) | go_keep) (first | (go_at_call 18; refine (C1.out _ HB1.out.drew).mono ?_; rintro e w3 ⟨rfl, hB3, hk3⟩; have z31 : w3.cell? ⟨b, 1, none⟩ = some (.int .i64 t) := (HK.out _ _ hk3 1).trans P1.out; have z32 : w3.cell? ⟨b, 2, none⟩ = some (.int .i64 i) := (HK.out _ _ hk3 2).trans P2.out; have z33 : w3.cell? ⟨b, 3, none⟩ = some (.int .i64 v) := (HK.out _ _ hk3 3).trans P3.out) | (go_at_call 25; refine (C2.out _ hB3).mono ?_; rintro e w4 ⟨rfl, hB4, hk4⟩; have z41 : w4.cell? ⟨b, 1, none⟩ = some (.int .i64 t) := (HK.out _ _ hk4 1).trans z31; have z42 : w4.cell? ⟨b, 2, none⟩ = some (.int .i64 i) := (HK.out _ _ hk4 2).trans z32; have z43 : w4.cell? ⟨b, 3, none⟩ = some (.int .i64 v) := (HK.out _ _ hk4 3).trans z33))
  have HB4 := hide hB4
  clear hB4 hB3 hk3 hk4 z31 z41 z32 z42 z33 z43 HB1 C1 C2 HK P1 P2 P3
  go_wp2
  go_ret
  exact ⟨by first | rfl | simp, _, HFIN.out, HB4.out.mono (fun _ h => h.elim)⟩

theorem does_any (W0 : World) (M R : Nat) (s : Ws) (hO : Okw s) (d t i v : Int) (hd : 0 ≤ d ∧ d ≤ 255) (w : World) (h : Bth W0 M R none0 s s w) :
    Calls Try.prog 9 #[.pointer (some ⟨M, 0, none⟩), .pointer (some ⟨R, 0, none⟩), .agg #[.int .u8 d, .int .i64 t, .int .i64 i, .int .i64 v]] w fun e w' => e = .returned (.bool true) ∧ ∃ s2, Okw s2 ∧ Bth W0 M R none0 s2 s2 w' := by
  obtain ⟨m, hm, hm10, _⟩ := u8_mod hd 10 (by omega) (by omega)
  rcases ten hm10 with rfl | rfl | rfl | rfl | rfl | rfl | rfl | rfl | rfl | rfl
  · exact does_0 W0 M R s hO d t i v hm w h
  · exact does_1 W0 M R s hO d t i v hm w h
  · exact does_2 W0 M R s hO d t i v hm w h
  · exact does_3 W0 M R s hO d t i v hm w h
  · exact does_4 W0 M R s hO d t i v hm w h
  · exact does_5 W0 M R s hO d t i v hm w h
  · exact does_6 W0 M R s hO d t i v hm w h
  · exact does_7 W0 M R s hO d t i v hm w h
  · exact does_8 W0 M R s hO d t i v hm w h
  · exact does_9 W0 M R s hO d t i v hm w h

end Go.Proofs.Ythadcampbchihaa
