/-
  What the law's own does comes to: an act of both, and what is left of both.
-/
import Derived.Test.YtgldhlcdnijecaaBoth
import Derived.Test.YtgldhlcdnijecaaUp
namespace Go.Proofs.Ytgldhlcdnijecaa
open Go.RowKit

/-- What is left of both, behind an act. -/
def After (W0 : World) (M R : Nat) (s s2 : Sm) (w : World) : Prop := Okw s2 ∧ s2.q.length ≤ s.q.length + 1 ∧ s2.n = s.n ∧ Bth W0 M R none0 s2 s2 w

set_option maxRecDepth 20000 in
set_option maxHeartbeats 4000000 in
theorem does_0 (W0 : World) (M R : Nat) (s : Sm) (hO : Okw s) (hl : s.q.length ≤ 999) (d t n : Int) (hd : d.tmod 8 = 0) (w : World) (h : Bth W0 M R none0 s s w) :
    Calls Try.prog 10 #[.pointer (some ⟨M, 0, none⟩), .pointer (some ⟨R, 0, none⟩), .agg #[.int .u8 d, .int .i64 t, .int .i64 n]] w fun e w' => e = .returned (.bool true) ∧ After W0 M R s (dropS s t) w' := by
  have hl1 : s.q.length ≤ 1000 := by omega
  have HFIN : Hid (Okw (dropS s t) ∧ (dropS s t).q.length ≤ s.q.length + 1 ∧ (dropS s t).n = s.n) := ⟨drop_ok hO t, (drop_len hO t).1, drop_n s t⟩
  obtain ⟨b, hb⟩ : ∃ b, b = w.heap.size := ⟨_, rfl⟩
  have C1 := hide (fun W (k : Bth W0 M R (fun k => k = b) s s W) => b_drop hO hl1 t k)
  have C2 : Hid (∀ F W, Bth W0 M R F (dropS s t) s W → Calls Try.prog 20 #[.pointer (some ⟨R, 0, none⟩), .int .i64 t] W fun e w' => ∃ a c, e = .returned (.tuple #[.slice a (dropO s t).length c, .bool (dropB s t)]) ∧ RowZ w' a (dropO s t) ∧ Bth W0 M R F (dropS s t) (dropS s t) w' ∧ Kept F W w') := hide fun F W k => r_drop hO hl1 t k
  have HK : Hid (∀ F W W', Kept F W W' → F b → W'.cell? ⟨b, 1, none⟩ = W.cell? ⟨b, 1, none⟩) := hide fun F W W' k f => World.cell?_of_block (k.1 b f)
  have HQL : Hid ((dropO s t).length ≤ 1000) := hide (Nat.le_trans (drop_len hO t).2 hl1)
  obtain ⟨w1, hw1⟩ : ∃ w1, w1 = w.alloc (.cells #[.int .u8 d, .int .i64 t, .int .i64 n] 29) := ⟨_, rfl⟩
  have HB1 : Hid (Bth W0 M R (fun k => k = b) s s w1) := hide (by rw [hw1, hb]; exact h.boxed _)
  have p0 : w1.cell? ⟨b, 0, none⟩ = some (.int .u8 d) := by rw [hw1, hb]; exact Lib.cell_of_heap (heap_alloc_new _ _) 0
  have p1 : w1.cell? ⟨b, 1, none⟩ = some (.int .i64 t) := by rw [hw1, hb]; exact Lib.cell_of_heap (heap_alloc_new _ _) 1
  have p2 : w1.cell? ⟨b, 2, none⟩ = some (.int .i64 n) := by rw [hw1, hb]; exact Lib.cell_of_heap (heap_alloc_new _ _) 2
  have P1 := hide p1
  have P2 := hide p2
  clear h hl1 hO
  generalize dropS s t = s2 at *
  generalize dropB s t = E0 at *
  generalize dropO s t = q at *
  have tt : (E0 == E0) = true := by simp
  go_enter Try.func10, Try.ntmps10
  go_wp2_with fail
  rw [← hw1, ← hb]
  clear hw1 hb
  go_wp2_with fail
  refine (C1.out _ HB1.out).mono ?_
  rintro e w3 ⟨a3, c3, rfl, hr3, hB3, hk3⟩
  have z3 : w3.cell? ⟨b, 1, none⟩ = some (.int .i64 t) := (HK.out _ _ _ hk3 rfl).trans P1.out
  have HB3 := hide hB3
  have HR3 := hide hr3
  clear hr3 hB3 hk3 HB1 C1 p0 p1 p2 P1 P2 HK
  go_wp2_with fail
  refine (C2.out _ _ HB3.out).mono ?_
  rintro e w4 ⟨a4, c4, rfl, hr4, hB4, hk4⟩
  have HI := hide (same_ints a3 a4 c3 c4 q w4 HQL.out (HR3.out.kept hk4).row hr4)
  have HB4 := hide hB4
  clear hr4 hB4 hk4 HB3 HR3 C2 z3
  go_wp2_with fail
  refine HI.out.mono ?_
  rintro e w5 ⟨rfl, hb5⟩
  have HB5 := hide (HB4.out.below hb5)
  clear hb5 HB4 HI
  go_wp2
  go_ret
  refine ⟨rfl, HFIN.out.1, HFIN.out.2.1, HFIN.out.2.2, HB5.out.mono (fun _ h => h.elim)⟩

set_option maxRecDepth 20000 in
set_option maxHeartbeats 4000000 in
theorem does_1 (W0 : World) (M R : Nat) (s : Sm) (hO : Okw s) (hl : s.q.length ≤ 999) (d t n : Int) (hd : d.tmod 8 = 1) (w : World) (h : Bth W0 M R none0 s s w) :
    Calls Try.prog 10 #[.pointer (some ⟨M, 0, none⟩), .pointer (some ⟨R, 0, none⟩), .agg #[.int .u8 d, .int .i64 t, .int .i64 n]] w fun e w' => e = .returned (.bool true) ∧ After W0 M R s (tryS s t n) w' := by
  have hl1 : s.q.length ≤ 1000 := by omega
  have HFIN : Hid (Okw (tryS s t n) ∧ (tryS s t n).q.length ≤ s.q.length + 1 ∧ (tryS s t n).n = s.n) := ⟨try_ok hO t n, try_len s t n, try_n s t n⟩
  obtain ⟨b, hb⟩ : ∃ b, b = w.heap.size := ⟨_, rfl⟩
  have C1 := hide (fun W (k : Bth W0 M R (fun k => k = b) s s W) => b_try hO hl1 t n k)
  have C2 : Hid (∀ W, Bth W0 M R (fun k => k = b) (tryS s t n) s W → Calls Try.prog 21 #[.pointer (some ⟨R, 0, none⟩), .int .i64 t, .int .i64 n, .bool false] W fun e w' => e = .returned (.int .i64 (tryE s t n)) ∧ Bth W0 M R (fun k => k = b) (tryS s t n) (tryS s t n) w' ∧ Kept (fun k => k = b) W w') := hide fun W k => r_want hO hl1 t n false k
  have HK : Hid (∀ W W', Kept (fun k => k = b) W W' → ∀ j, W'.cell? ⟨b, j, none⟩ = W.cell? ⟨b, j, none⟩) := hide fun W W' k j => World.cell?_of_block (k.1 b rfl)
  obtain ⟨w1, hw1⟩ : ∃ w1, w1 = w.alloc (.cells #[.int .u8 d, .int .i64 t, .int .i64 n] 29) := ⟨_, rfl⟩
  have HB1 : Hid (Bth W0 M R (fun k => k = b) s s w1) := hide (by rw [hw1, hb]; exact h.boxed _)
  have p0 : w1.cell? ⟨b, 0, none⟩ = some (.int .u8 d) := by rw [hw1, hb]; exact Lib.cell_of_heap (heap_alloc_new _ _) 0
  have p1 : w1.cell? ⟨b, 1, none⟩ = some (.int .i64 t) := by rw [hw1, hb]; exact Lib.cell_of_heap (heap_alloc_new _ _) 1
  have p2 : w1.cell? ⟨b, 2, none⟩ = some (.int .i64 n) := by rw [hw1, hb]; exact Lib.cell_of_heap (heap_alloc_new _ _) 2
  have P1 := hide p1
  have P2 := hide p2
  clear h hl1 hO
  generalize tryS s t n = s2 at *
  generalize tryE s t n = E0 at *
  have tt : (E0 == E0) = true := by simp
  go_enter Try.func10, Try.ntmps10
  go_wp2_with fail
  rw [← hw1, ← hb]
  clear hw1 hb
  go_wp2_with fail
  go_region_held3 (fun w' => w'.cell? ⟨b, 1, none⟩ = some (.int .i64 t) ∧ w'.cell? ⟨b, 2, none⟩ = some (.int .i64 n)) (first | (constructor <;> assumption) | go_keep) (first | (go_at_call 19; refine (C1.out _ HB1.out.drew).mono ?_; rintro e w3 ⟨rfl, hB3, hk3⟩; have z3 : w3.cell? ⟨b, 1, none⟩ = some (.int .i64 t) := (HK.out _ _ hk3 1).trans P1.out; have x3 : w3.cell? ⟨b, 2, none⟩ = some (.int .i64 n) := (HK.out _ _ hk3 2).trans P2.out) | (go_at_call 21; refine (C2.out _ hB3).mono ?_; rintro e w4 ⟨rfl, hB4, hk4⟩; have z4 : w4.cell? ⟨b, 1, none⟩ = some (.int .i64 t) := (HK.out _ _ hk4 1).trans z3; have x4 : w4.cell? ⟨b, 2, none⟩ = some (.int .i64 n) := (HK.out _ _ hk4 2).trans x3))
  have HB4 := hide hB4
  clear hB4 hB3 hk3 hk4 z3 z4 x3 x4 HB1 C1 C2 HK P1 P2
  go_wp2
  go_ret
  refine ⟨rfl, HFIN.out.1, HFIN.out.2.1, HFIN.out.2.2, HB4.out.mono (fun _ h => h.elim)⟩

set_option maxRecDepth 20000 in
set_option maxHeartbeats 4000000 in
theorem does_2 (W0 : World) (M R : Nat) (s : Sm) (hO : Okw s) (hl : s.q.length ≤ 999) (d t n : Int) (hd : d.tmod 8 = 2) (w : World) (h : Bth W0 M R none0 s s w) :
    Calls Try.prog 10 #[.pointer (some ⟨M, 0, none⟩), .pointer (some ⟨R, 0, none⟩), .agg #[.int .u8 d, .int .i64 t, .int .i64 n]] w fun e w' => e = .returned (.bool true) ∧ After W0 M R s (relS s n) w' := by
  have hl1 : s.q.length ≤ 1000 := by omega
  have HFIN : Hid (Okw (relS s n) ∧ (relS s n).q.length ≤ s.q.length + 1 ∧ (relS s n).n = s.n) := ⟨rel_ok hO n, (rel_len hO n).1, rel_n s n⟩
  obtain ⟨b, hb⟩ : ∃ b, b = w.heap.size := ⟨_, rfl⟩
  have C1 := hide (fun W (k : Bth W0 M R (fun k => k = b) s s W) => b_rel hO hl1 n k)
  have C2 : Hid (∀ F W, Bth W0 M R F (relS s n) s W → Calls Try.prog 22 #[.pointer (some ⟨R, 0, none⟩), .int .i64 n] W fun e w' => ∃ a c, e = .returned (.tuple #[.slice a (relO s n).length c, .int .i64 (relE s n)]) ∧ RowZ w' a (relO s n) ∧ Bth W0 M R F (relS s n) (relS s n) w' ∧ Kept F W w') := hide fun F W k => r_rel hO hl1 n k
  have HK : Hid (∀ F W W', Kept F W W' → F b → W'.cell? ⟨b, 2, none⟩ = W.cell? ⟨b, 2, none⟩) := hide fun F W W' k f => World.cell?_of_block (k.1 b f)
  have HQL : Hid ((relO s n).length ≤ 1000) := hide (Nat.le_trans (rel_len hO n).2 hl1)
  obtain ⟨w1, hw1⟩ : ∃ w1, w1 = w.alloc (.cells #[.int .u8 d, .int .i64 t, .int .i64 n] 29) := ⟨_, rfl⟩
  have HB1 : Hid (Bth W0 M R (fun k => k = b) s s w1) := hide (by rw [hw1, hb]; exact h.boxed _)
  have p0 : w1.cell? ⟨b, 0, none⟩ = some (.int .u8 d) := by rw [hw1, hb]; exact Lib.cell_of_heap (heap_alloc_new _ _) 0
  have p1 : w1.cell? ⟨b, 1, none⟩ = some (.int .i64 t) := by rw [hw1, hb]; exact Lib.cell_of_heap (heap_alloc_new _ _) 1
  have p2 : w1.cell? ⟨b, 2, none⟩ = some (.int .i64 n) := by rw [hw1, hb]; exact Lib.cell_of_heap (heap_alloc_new _ _) 2
  have P1 := hide p1
  have P2 := hide p2
  clear h hl1 hO
  generalize relS s n = s2 at *
  generalize relE s n = E0 at *
  generalize relO s n = q at *
  have tt : (E0 == E0) = true := by simp
  go_enter Try.func10, Try.ntmps10
  go_wp2_with fail
  rw [← hw1, ← hb]
  clear hw1 hb
  go_wp2_with fail
  refine (C1.out _ HB1.out).mono ?_
  rintro e w3 ⟨a3, c3, rfl, hr3, hB3, hk3⟩
  have z3 : w3.cell? ⟨b, 2, none⟩ = some (.int .i64 n) := (HK.out _ _ _ hk3 rfl).trans P2.out
  have HB3 := hide hB3
  have HR3 := hide hr3
  clear hr3 hB3 hk3 HB1 C1 p0 p1 p2 P1 P2 HK
  go_wp2_with fail
  refine (C2.out _ _ HB3.out).mono ?_
  rintro e w4 ⟨a4, c4, rfl, hr4, hB4, hk4⟩
  have HI := hide (same_ints a3 a4 c3 c4 q w4 HQL.out (HR3.out.kept hk4).row hr4)
  have HB4 := hide hB4
  clear hr4 hB4 hk4 HB3 HR3 C2 z3
  go_wp2_with fail
  refine HI.out.mono ?_
  rintro e w5 ⟨rfl, hb5⟩
  have HB5 := hide (HB4.out.below hb5)
  clear hb5 HB4 HI
  go_wp2
  go_ret
  refine ⟨rfl, HFIN.out.1, HFIN.out.2.1, HFIN.out.2.2, HB5.out.mono (fun _ h => h.elim)⟩

set_option maxRecDepth 20000 in
set_option maxHeartbeats 4000000 in
theorem does_3 (W0 : World) (M R : Nat) (s : Sm) (hO : Okw s) (hl : s.q.length ≤ 999) (d t n : Int) (hd : d.tmod 8 = 3) (w : World) (h : Bth W0 M R none0 s s w) :
    Calls Try.prog 10 #[.pointer (some ⟨M, 0, none⟩), .pointer (some ⟨R, 0, none⟩), .agg #[.int .u8 d, .int .i64 t, .int .i64 n]] w fun e w' => e = .returned (.bool true) ∧ After W0 M R s (relS s n) w' := by
  have hl1 : s.q.length ≤ 1000 := by omega
  have HFIN : Hid (Okw (relS s n) ∧ (relS s n).q.length ≤ s.q.length + 1 ∧ (relS s n).n = s.n) := ⟨rel_ok hO n, (rel_len hO n).1, rel_n s n⟩
  obtain ⟨b, hb⟩ : ∃ b, b = w.heap.size := ⟨_, rfl⟩
  have C1 := hide (fun W (k : Bth W0 M R (fun k => k = b) s s W) => b_rel hO hl1 n k)
  have C2 : Hid (∀ F W, Bth W0 M R F (relS s n) s W → Calls Try.prog 22 #[.pointer (some ⟨R, 0, none⟩), .int .i64 n] W fun e w' => ∃ a c, e = .returned (.tuple #[.slice a (relO s n).length c, .int .i64 (relE s n)]) ∧ RowZ w' a (relO s n) ∧ Bth W0 M R F (relS s n) (relS s n) w' ∧ Kept F W w') := hide fun F W k => r_rel hO hl1 n k
  have HK : Hid (∀ F W W', Kept F W W' → F b → W'.cell? ⟨b, 2, none⟩ = W.cell? ⟨b, 2, none⟩) := hide fun F W W' k f => World.cell?_of_block (k.1 b f)
  have HQL : Hid ((relO s n).length ≤ 1000) := hide (Nat.le_trans (rel_len hO n).2 hl1)
  obtain ⟨w1, hw1⟩ : ∃ w1, w1 = w.alloc (.cells #[.int .u8 d, .int .i64 t, .int .i64 n] 29) := ⟨_, rfl⟩
  have HB1 : Hid (Bth W0 M R (fun k => k = b) s s w1) := hide (by rw [hw1, hb]; exact h.boxed _)
  have p0 : w1.cell? ⟨b, 0, none⟩ = some (.int .u8 d) := by rw [hw1, hb]; exact Lib.cell_of_heap (heap_alloc_new _ _) 0
  have p1 : w1.cell? ⟨b, 1, none⟩ = some (.int .i64 t) := by rw [hw1, hb]; exact Lib.cell_of_heap (heap_alloc_new _ _) 1
  have p2 : w1.cell? ⟨b, 2, none⟩ = some (.int .i64 n) := by rw [hw1, hb]; exact Lib.cell_of_heap (heap_alloc_new _ _) 2
  have P1 := hide p1
  have P2 := hide p2
  clear h hl1 hO
  generalize relS s n = s2 at *
  generalize relE s n = E0 at *
  generalize relO s n = q at *
  have tt : (E0 == E0) = true := by simp
  go_enter Try.func10, Try.ntmps10
  go_wp2_with fail
  rw [← hw1, ← hb]
  clear hw1 hb
  go_wp2_with fail
  refine (C1.out _ HB1.out).mono ?_
  rintro e w3 ⟨a3, c3, rfl, hr3, hB3, hk3⟩
  have z3 : w3.cell? ⟨b, 2, none⟩ = some (.int .i64 n) := (HK.out _ _ _ hk3 rfl).trans P2.out
  have HB3 := hide hB3
  have HR3 := hide hr3
  clear hr3 hB3 hk3 HB1 C1 p0 p1 p2 P1 P2 HK
  go_wp2_with fail
  refine (C2.out _ _ HB3.out).mono ?_
  rintro e w4 ⟨a4, c4, rfl, hr4, hB4, hk4⟩
  have HI := hide (same_ints a3 a4 c3 c4 q w4 HQL.out (HR3.out.kept hk4).row hr4)
  have HB4 := hide hB4
  clear hr4 hB4 hk4 HB3 HR3 C2 z3
  go_wp2_with fail
  refine HI.out.mono ?_
  rintro e w5 ⟨rfl, hb5⟩
  have HB5 := hide (HB4.out.below hb5)
  clear hb5 HB4 HI
  go_wp2
  go_ret
  refine ⟨rfl, HFIN.out.1, HFIN.out.2.1, HFIN.out.2.2, HB5.out.mono (fun _ h => h.elim)⟩

set_option maxRecDepth 20000 in
set_option maxHeartbeats 4000000 in
theorem does_4 (W0 : World) (M R : Nat) (s : Sm) (hO : Okw s) (hl : s.q.length ≤ 999) (d t n : Int) (hd : d.tmod 8 = 4) (w : World) (h : Bth W0 M R none0 s s w) :
    Calls Try.prog 10 #[.pointer (some ⟨M, 0, none⟩), .pointer (some ⟨R, 0, none⟩), .agg #[.int .u8 d, .int .i64 t, .int .i64 n]] w fun e w' => e = .returned (.bool true) ∧ After W0 M R s (relS s n) w' := by
  have hl1 : s.q.length ≤ 1000 := by omega
  have HFIN : Hid (Okw (relS s n) ∧ (relS s n).q.length ≤ s.q.length + 1 ∧ (relS s n).n = s.n) := ⟨rel_ok hO n, (rel_len hO n).1, rel_n s n⟩
  obtain ⟨b, hb⟩ : ∃ b, b = w.heap.size := ⟨_, rfl⟩
  have C1 := hide (fun W (k : Bth W0 M R (fun k => k = b) s s W) => b_rel hO hl1 n k)
  have C2 : Hid (∀ F W, Bth W0 M R F (relS s n) s W → Calls Try.prog 22 #[.pointer (some ⟨R, 0, none⟩), .int .i64 n] W fun e w' => ∃ a c, e = .returned (.tuple #[.slice a (relO s n).length c, .int .i64 (relE s n)]) ∧ RowZ w' a (relO s n) ∧ Bth W0 M R F (relS s n) (relS s n) w' ∧ Kept F W w') := hide fun F W k => r_rel hO hl1 n k
  have HK : Hid (∀ F W W', Kept F W W' → F b → W'.cell? ⟨b, 2, none⟩ = W.cell? ⟨b, 2, none⟩) := hide fun F W W' k f => World.cell?_of_block (k.1 b f)
  have HQL : Hid ((relO s n).length ≤ 1000) := hide (Nat.le_trans (rel_len hO n).2 hl1)
  obtain ⟨w1, hw1⟩ : ∃ w1, w1 = w.alloc (.cells #[.int .u8 d, .int .i64 t, .int .i64 n] 29) := ⟨_, rfl⟩
  have HB1 : Hid (Bth W0 M R (fun k => k = b) s s w1) := hide (by rw [hw1, hb]; exact h.boxed _)
  have p0 : w1.cell? ⟨b, 0, none⟩ = some (.int .u8 d) := by rw [hw1, hb]; exact Lib.cell_of_heap (heap_alloc_new _ _) 0
  have p1 : w1.cell? ⟨b, 1, none⟩ = some (.int .i64 t) := by rw [hw1, hb]; exact Lib.cell_of_heap (heap_alloc_new _ _) 1
  have p2 : w1.cell? ⟨b, 2, none⟩ = some (.int .i64 n) := by rw [hw1, hb]; exact Lib.cell_of_heap (heap_alloc_new _ _) 2
  have P1 := hide p1
  have P2 := hide p2
  clear h hl1 hO
  generalize relS s n = s2 at *
  generalize relE s n = E0 at *
  generalize relO s n = q at *
  have tt : (E0 == E0) = true := by simp
  go_enter Try.func10, Try.ntmps10
  go_wp2_with fail
  rw [← hw1, ← hb]
  clear hw1 hb
  go_wp2_with fail
  refine (C1.out _ HB1.out).mono ?_
  rintro e w3 ⟨a3, c3, rfl, hr3, hB3, hk3⟩
  have z3 : w3.cell? ⟨b, 2, none⟩ = some (.int .i64 n) := (HK.out _ _ _ hk3 rfl).trans P2.out
  have HB3 := hide hB3
  have HR3 := hide hr3
  clear hr3 hB3 hk3 HB1 C1 p0 p1 p2 P1 P2 HK
  go_wp2_with fail
  refine (C2.out _ _ HB3.out).mono ?_
  rintro e w4 ⟨a4, c4, rfl, hr4, hB4, hk4⟩
  have HI := hide (same_ints a3 a4 c3 c4 q w4 HQL.out (HR3.out.kept hk4).row hr4)
  have HB4 := hide hB4
  clear hr4 hB4 hk4 HB3 HR3 C2 z3
  go_wp2_with fail
  refine HI.out.mono ?_
  rintro e w5 ⟨rfl, hb5⟩
  have HB5 := hide (HB4.out.below hb5)
  clear hb5 HB4 HI
  go_wp2
  go_ret
  refine ⟨rfl, HFIN.out.1, HFIN.out.2.1, HFIN.out.2.2, HB5.out.mono (fun _ h => h.elim)⟩

set_option maxRecDepth 20000 in
set_option maxHeartbeats 4000000 in
theorem does_5 (W0 : World) (M R : Nat) (s : Sm) (hO : Okw s) (hl : s.q.length ≤ 999) (d t n : Int) (hd : d.tmod 8 = 5) (w : World) (h : Bth W0 M R none0 s s w) :
    Calls Try.prog 10 #[.pointer (some ⟨M, 0, none⟩), .pointer (some ⟨R, 0, none⟩), .agg #[.int .u8 d, .int .i64 t, .int .i64 n]] w fun e w' => e = .returned (.bool true) ∧ After W0 M R s (acqS s t n) w' := by
  have hl1 : s.q.length ≤ 1000 := by omega
  have HFIN : Hid (Okw (acqS s t n) ∧ (acqS s t n).q.length ≤ s.q.length + 1 ∧ (acqS s t n).n = s.n) := ⟨acq_ok hO t n, acq_len s t n, acq_n s t n⟩
  obtain ⟨b, hb⟩ : ∃ b, b = w.heap.size := ⟨_, rfl⟩
  have C1 := hide (fun W (k : Bth W0 M R (fun k => k = b) s s W) => b_acq hO hl1 t n k)
  have C2 : Hid (∀ W, Bth W0 M R (fun k => k = b) (acqS s t n) s W → Calls Try.prog 21 #[.pointer (some ⟨R, 0, none⟩), .int .i64 t, .int .i64 n, .bool true] W fun e w' => e = .returned (.int .i64 (acqE s t n)) ∧ Bth W0 M R (fun k => k = b) (acqS s t n) (acqS s t n) w' ∧ Kept (fun k => k = b) W w') := hide fun W k => r_want hO hl1 t n true k
  have HK : Hid (∀ W W', Kept (fun k => k = b) W W' → ∀ j, W'.cell? ⟨b, j, none⟩ = W.cell? ⟨b, j, none⟩) := hide fun W W' k j => World.cell?_of_block (k.1 b rfl)
  obtain ⟨w1, hw1⟩ : ∃ w1, w1 = w.alloc (.cells #[.int .u8 d, .int .i64 t, .int .i64 n] 29) := ⟨_, rfl⟩
  have HB1 : Hid (Bth W0 M R (fun k => k = b) s s w1) := hide (by rw [hw1, hb]; exact h.boxed _)
  have p0 : w1.cell? ⟨b, 0, none⟩ = some (.int .u8 d) := by rw [hw1, hb]; exact Lib.cell_of_heap (heap_alloc_new _ _) 0
  have p1 : w1.cell? ⟨b, 1, none⟩ = some (.int .i64 t) := by rw [hw1, hb]; exact Lib.cell_of_heap (heap_alloc_new _ _) 1
  have p2 : w1.cell? ⟨b, 2, none⟩ = some (.int .i64 n) := by rw [hw1, hb]; exact Lib.cell_of_heap (heap_alloc_new _ _) 2
  have P1 := hide p1
  have P2 := hide p2
  clear h hl1 hO
  generalize acqS s t n = s2 at *
  generalize acqE s t n = E0 at *
  have tt : (E0 == E0) = true := by simp
  go_enter Try.func10, Try.ntmps10
  go_wp2_with fail
  rw [← hw1, ← hb]
  clear hw1 hb
  go_wp2_with fail
  go_region_held3 (fun w' => w'.cell? ⟨b, 1, none⟩ = some (.int .i64 t) ∧ w'.cell? ⟨b, 2, none⟩ = some (.int .i64 n)) (first | (constructor <;> assumption) | go_keep) (first | (go_at_call 18; refine (C1.out _ HB1.out.drew).mono ?_; rintro e w3 ⟨rfl, hB3, hk3⟩; have z3 : w3.cell? ⟨b, 1, none⟩ = some (.int .i64 t) := (HK.out _ _ hk3 1).trans P1.out; have x3 : w3.cell? ⟨b, 2, none⟩ = some (.int .i64 n) := (HK.out _ _ hk3 2).trans P2.out) | (go_at_call 21; refine (C2.out _ hB3).mono ?_; rintro e w4 ⟨rfl, hB4, hk4⟩; have z4 : w4.cell? ⟨b, 1, none⟩ = some (.int .i64 t) := (HK.out _ _ hk4 1).trans z3; have x4 : w4.cell? ⟨b, 2, none⟩ = some (.int .i64 n) := (HK.out _ _ hk4 2).trans x3))
  have HB4 := hide hB4
  clear hB4 hB3 hk3 hk4 z3 z4 x3 x4 HB1 C1 C2 HK P1 P2
  go_wp2
  go_ret
  refine ⟨rfl, HFIN.out.1, HFIN.out.2.1, HFIN.out.2.2, HB4.out.mono (fun _ h => h.elim)⟩

set_option maxRecDepth 20000 in
set_option maxHeartbeats 4000000 in
theorem does_6 (W0 : World) (M R : Nat) (s : Sm) (hO : Okw s) (hl : s.q.length ≤ 999) (d t n : Int) (hd : d.tmod 8 = 6) (w : World) (h : Bth W0 M R none0 s s w) :
    Calls Try.prog 10 #[.pointer (some ⟨M, 0, none⟩), .pointer (some ⟨R, 0, none⟩), .agg #[.int .u8 d, .int .i64 t, .int .i64 n]] w fun e w' => e = .returned (.bool true) ∧ After W0 M R s (acqS s t n) w' := by
  have hl1 : s.q.length ≤ 1000 := by omega
  have HFIN : Hid (Okw (acqS s t n) ∧ (acqS s t n).q.length ≤ s.q.length + 1 ∧ (acqS s t n).n = s.n) := ⟨acq_ok hO t n, acq_len s t n, acq_n s t n⟩
  obtain ⟨b, hb⟩ : ∃ b, b = w.heap.size := ⟨_, rfl⟩
  have C1 := hide (fun W (k : Bth W0 M R (fun k => k = b) s s W) => b_acq hO hl1 t n k)
  have C2 : Hid (∀ W, Bth W0 M R (fun k => k = b) (acqS s t n) s W → Calls Try.prog 21 #[.pointer (some ⟨R, 0, none⟩), .int .i64 t, .int .i64 n, .bool true] W fun e w' => e = .returned (.int .i64 (acqE s t n)) ∧ Bth W0 M R (fun k => k = b) (acqS s t n) (acqS s t n) w' ∧ Kept (fun k => k = b) W w') := hide fun W k => r_want hO hl1 t n true k
  have HK : Hid (∀ W W', Kept (fun k => k = b) W W' → ∀ j, W'.cell? ⟨b, j, none⟩ = W.cell? ⟨b, j, none⟩) := hide fun W W' k j => World.cell?_of_block (k.1 b rfl)
  obtain ⟨w1, hw1⟩ : ∃ w1, w1 = w.alloc (.cells #[.int .u8 d, .int .i64 t, .int .i64 n] 29) := ⟨_, rfl⟩
  have HB1 : Hid (Bth W0 M R (fun k => k = b) s s w1) := hide (by rw [hw1, hb]; exact h.boxed _)
  have p0 : w1.cell? ⟨b, 0, none⟩ = some (.int .u8 d) := by rw [hw1, hb]; exact Lib.cell_of_heap (heap_alloc_new _ _) 0
  have p1 : w1.cell? ⟨b, 1, none⟩ = some (.int .i64 t) := by rw [hw1, hb]; exact Lib.cell_of_heap (heap_alloc_new _ _) 1
  have p2 : w1.cell? ⟨b, 2, none⟩ = some (.int .i64 n) := by rw [hw1, hb]; exact Lib.cell_of_heap (heap_alloc_new _ _) 2
  have P1 := hide p1
  have P2 := hide p2
  clear h hl1 hO
  generalize acqS s t n = s2 at *
  generalize acqE s t n = E0 at *
  have tt : (E0 == E0) = true := by simp
  go_enter Try.func10, Try.ntmps10
  go_wp2_with fail
  rw [← hw1, ← hb]
  clear hw1 hb
  go_wp2_with fail
  go_region_held3 (fun w' => w'.cell? ⟨b, 1, none⟩ = some (.int .i64 t) ∧ w'.cell? ⟨b, 2, none⟩ = some (.int .i64 n)) (first | (constructor <;> assumption) | go_keep) (first | (go_at_call 18; refine (C1.out _ HB1.out.drew).mono ?_; rintro e w3 ⟨rfl, hB3, hk3⟩; have z3 : w3.cell? ⟨b, 1, none⟩ = some (.int .i64 t) := (HK.out _ _ hk3 1).trans P1.out; have x3 : w3.cell? ⟨b, 2, none⟩ = some (.int .i64 n) := (HK.out _ _ hk3 2).trans P2.out) | (go_at_call 21; refine (C2.out _ hB3).mono ?_; rintro e w4 ⟨rfl, hB4, hk4⟩; have z4 : w4.cell? ⟨b, 1, none⟩ = some (.int .i64 t) := (HK.out _ _ hk4 1).trans z3; have x4 : w4.cell? ⟨b, 2, none⟩ = some (.int .i64 n) := (HK.out _ _ hk4 2).trans x3))
  have HB4 := hide hB4
  clear hB4 hB3 hk3 hk4 z3 z4 x3 x4 HB1 C1 C2 HK P1 P2
  go_wp2
  go_ret
  refine ⟨rfl, HFIN.out.1, HFIN.out.2.1, HFIN.out.2.2, HB4.out.mono (fun _ h => h.elim)⟩

set_option maxRecDepth 20000 in
set_option maxHeartbeats 4000000 in
theorem does_7 (W0 : World) (M R : Nat) (s : Sm) (hO : Okw s) (hl : s.q.length ≤ 999) (d t n : Int) (hd : d.tmod 8 = 7) (w : World) (h : Bth W0 M R none0 s s w) :
    Calls Try.prog 10 #[.pointer (some ⟨M, 0, none⟩), .pointer (some ⟨R, 0, none⟩), .agg #[.int .u8 d, .int .i64 t, .int .i64 n]] w fun e w' => e = .returned (.bool true) ∧ After W0 M R s (acqS s t n) w' := by
  have hl1 : s.q.length ≤ 1000 := by omega
  have HFIN : Hid (Okw (acqS s t n) ∧ (acqS s t n).q.length ≤ s.q.length + 1 ∧ (acqS s t n).n = s.n) := ⟨acq_ok hO t n, acq_len s t n, acq_n s t n⟩
  obtain ⟨b, hb⟩ : ∃ b, b = w.heap.size := ⟨_, rfl⟩
  have C1 := hide (fun W (k : Bth W0 M R (fun k => k = b) s s W) => b_acq hO hl1 t n k)
  have C2 : Hid (∀ W, Bth W0 M R (fun k => k = b) (acqS s t n) s W → Calls Try.prog 21 #[.pointer (some ⟨R, 0, none⟩), .int .i64 t, .int .i64 n, .bool true] W fun e w' => e = .returned (.int .i64 (acqE s t n)) ∧ Bth W0 M R (fun k => k = b) (acqS s t n) (acqS s t n) w' ∧ Kept (fun k => k = b) W w') := hide fun W k => r_want hO hl1 t n true k
  have HK : Hid (∀ W W', Kept (fun k => k = b) W W' → ∀ j, W'.cell? ⟨b, j, none⟩ = W.cell? ⟨b, j, none⟩) := hide fun W W' k j => World.cell?_of_block (k.1 b rfl)
  obtain ⟨w1, hw1⟩ : ∃ w1, w1 = w.alloc (.cells #[.int .u8 d, .int .i64 t, .int .i64 n] 29) := ⟨_, rfl⟩
  have HB1 : Hid (Bth W0 M R (fun k => k = b) s s w1) := hide (by rw [hw1, hb]; exact h.boxed _)
  have p0 : w1.cell? ⟨b, 0, none⟩ = some (.int .u8 d) := by rw [hw1, hb]; exact Lib.cell_of_heap (heap_alloc_new _ _) 0
  have p1 : w1.cell? ⟨b, 1, none⟩ = some (.int .i64 t) := by rw [hw1, hb]; exact Lib.cell_of_heap (heap_alloc_new _ _) 1
  have p2 : w1.cell? ⟨b, 2, none⟩ = some (.int .i64 n) := by rw [hw1, hb]; exact Lib.cell_of_heap (heap_alloc_new _ _) 2
  have P1 := hide p1
  have P2 := hide p2
  clear h hl1 hO
  generalize acqS s t n = s2 at *
  generalize acqE s t n = E0 at *
  have tt : (E0 == E0) = true := by simp
  go_enter Try.func10, Try.ntmps10
  go_wp2_with fail
  rw [← hw1, ← hb]
  clear hw1 hb
  go_wp2_with fail
  go_region_held3 (fun w' => w'.cell? ⟨b, 1, none⟩ = some (.int .i64 t) ∧ w'.cell? ⟨b, 2, none⟩ = some (.int .i64 n)) (first | (constructor <;> assumption) | go_keep) (first | (go_at_call 18; refine (C1.out _ HB1.out.drew).mono ?_; rintro e w3 ⟨rfl, hB3, hk3⟩; have z3 : w3.cell? ⟨b, 1, none⟩ = some (.int .i64 t) := (HK.out _ _ hk3 1).trans P1.out; have x3 : w3.cell? ⟨b, 2, none⟩ = some (.int .i64 n) := (HK.out _ _ hk3 2).trans P2.out) | (go_at_call 21; refine (C2.out _ hB3).mono ?_; rintro e w4 ⟨rfl, hB4, hk4⟩; have z4 : w4.cell? ⟨b, 1, none⟩ = some (.int .i64 t) := (HK.out _ _ hk4 1).trans z3; have x4 : w4.cell? ⟨b, 2, none⟩ = some (.int .i64 n) := (HK.out _ _ hk4 2).trans x3))
  have HB4 := hide hB4
  clear hB4 hB3 hk3 hk4 z3 z4 x3 x4 HB1 C1 C2 HK P1 P2
  go_wp2
  go_ret
  refine ⟨rfl, HFIN.out.1, HFIN.out.2.1, HFIN.out.2.2, HB4.out.mono (fun _ h => h.elim)⟩

theorem eight {m : Nat} (h : m < 8) : m = 0 ∨ m = 1 ∨ m = 2 ∨ m = 3 ∨ m = 4 ∨ m = 5 ∨ m = 6 ∨ m = 7 := by omega
/-- What an act leaves. -/
def doesS (s : Sm) (d t n : Int) : Sm := if d.tmod 8 = 0 then dropS s t else if d.tmod 8 = 1 then tryS s t n else if d.tmod 8 ≤ 4 then relS s n else acqS s t n
theorem does_any (W0 : World) (M R : Nat) (s : Sm) (hO : Okw s) (hl : s.q.length ≤ 999) (d t n : Int) (hd : 0 ≤ d ∧ d ≤ 255) (w : World) (h : Bth W0 M R none0 s s w) :
    Calls Try.prog 10 #[.pointer (some ⟨M, 0, none⟩), .pointer (some ⟨R, 0, none⟩), .agg #[.int .u8 d, .int .i64 t, .int .i64 n]] w fun e w' => e = .returned (.bool true) ∧ After W0 M R s (doesS s d t n) w' := by
  obtain ⟨m, hm, h8, _, _⟩ := u8_mod hd 8 (by omega) (by omega)
  have hm' : d.tmod 8 = (m : Int) := hm
  unfold doesS
  rcases eight h8 with rfl | rfl | rfl | rfl | rfl | rfl | rfl | rfl
  · rw [hm']
    exact does_0 W0 M R s hO hl d t n hm w h
  · rw [hm']
    exact does_1 W0 M R s hO hl d t n hm w h
  · rw [hm']
    exact does_2 W0 M R s hO hl d t n hm w h
  · rw [hm']
    exact does_3 W0 M R s hO hl d t n hm w h
  · rw [hm']
    exact does_4 W0 M R s hO hl d t n hm w h
  · rw [hm']
    exact does_5 W0 M R s hO hl d t n hm w h
  · rw [hm']
    exact does_6 W0 M R s hO hl d t n hm w h
  · rw [hm']
    exact does_7 W0 M R s hO hl d t n hm w h

end Go.Proofs.Ytgldhlcdnijecaa
