/-
  What the law's own does comes to: an act of both, and what is left of both.
-/
import Derived.Test.YtggfndokmdpaeaaBoth
namespace Go.Proofs.Ytggfndokmdpaeaa
open Go.RowKit

/-- What is left of both, behind an act. -/
def After (W0 : World) (M R : Nat) (l : List Wn) (w : World) : Prop := ∃ s2 l2, Rep s2 l2 ∧ l2.length ≤ l.length + 1 ∧ Bth W0 M R none0 s2 l2 w

theorem handLo_len (l : List Wn) : (handLo l).length ≤ l.length := by
  unfold handLo
  split
  · simp
  split
  · exact kinds_le _ _ _
  split
  · have := kinds_le l true false
    rw [List.length_take]
    omega
  · simp
theorem less_le {l : List Wn} (k : Nat) : (lessO l k).length ≤ l.length := by
  unfold lessO
  rw [List.length_append, List.length_take, List.length_drop]
  omega
theorem giveO_len {l : List Wn} (h : l.length ≤ 1000) (t : Int) (b : Bool) : (giveO l t b).length ≤ 1000 := by
  unfold giveO
  split
  · simp
  split
  · have := handLo_len (lessO l (idxN l t))
    have := less_le (l := l) (idxN l t)
    omega
  · simp
theorem outO_len {l : List Wn} (h : l.length ≤ 1000) (t : Int) : (outO l t).length ≤ 1000 := by
  unfold outO
  split
  · have := handLo_len (lessO l (idxN l t))
    have := less_le (l := l) (idxN l t)
    omega
  · simp

set_option maxRecDepth 20000 in
set_option maxHeartbeats 4000000 in
theorem does_0 (W0 : World) (M R : Nat) (s : St) (l : List Wn) (hr : Rep s l) (hl : l.length ≤ 999) (d t : Int) (hd : d.tmod 12 = 0) (w : World) (h : Bth W0 M R none0 s l w) :
    Calls Try.prog 9 #[.pointer (some ⟨M, 0, none⟩), .pointer (some ⟨R, 0, none⟩), .agg #[.int .u8 d, .int .i64 t]] w fun e w' => e = .returned (.bool true) ∧ After W0 M R l w' := by
  have hl1 : l.length ≤ 1000 := by omega
  have hs := hr.lens hl1
  have hnd := hr.nds
  have J := out_d hr t
  have HFIN : Hid (Rep (dropS s t) (outL l t) ∧ (outL l t).length ≤ l.length + 1) := ⟨J.2.2, out_len hr.k.nd _⟩
  obtain ⟨b, hb⟩ : ∃ b, b = w.heap.size := ⟨_, rfl⟩
  have C1 := hide (fun W (k : Bth W0 M R (fun k => k = b) s l W) => b_drop hs hnd t k)
  have C2 : Hid (∀ F W, Bth W0 M R F (dropS s t) l W → Calls Try.prog 23 #[.pointer (some ⟨R, 0, none⟩), .int .i64 t] W fun e w' => ∃ a c, e = .returned (.tuple #[.slice a (dropO s t).length c, .bool (dropB s t)]) ∧ RowZ w' a (dropO s t) ∧ Bth W0 M R F (dropS s t) (outL l t) w' ∧ Kept F W w') := hide fun F W k => by
    have := r_drop hl1 hr.k.nd t k
    rw [J.1, J.2.1] at this
    exact this
  have HK : Hid (∀ F W W', Kept F W W' → F b → W.cell? ⟨b, 1, none⟩ = some (.int .i64 t) → W'.cell? ⟨b, 1, none⟩ = some (.int .i64 t)) := hide fun F W W' k f c => (World.cell?_of_block (k.1 b f)).trans c
  have HQL : Hid ((dropO s t).length ≤ 1000) := hide (by rw [← J.2.1]; exact outO_len hl1 t)
  obtain ⟨w1, hw1⟩ : ∃ w1, w1 = w.alloc (.cells #[.int .u8 d, .int .i64 t] 31) := ⟨_, rfl⟩
  have HB1 : Hid (Bth W0 M R (fun k => k = b) s l w1) := hide (by rw [hw1, hb]; exact h.boxed _)
  have p0 : w1.cell? ⟨b, 0, none⟩ = some (.int .u8 d) := by rw [hw1, hb]; exact Lib.cell_of_heap (heap_alloc_new _ _) 0
  have p1 : w1.cell? ⟨b, 1, none⟩ = some (.int .i64 t) := by rw [hw1, hb]; exact Lib.cell_of_heap (heap_alloc_new _ _) 1
  have P1 := hide p1
  clear h hr hs hl1 J hnd
  generalize dropS s t = s2 at *
  generalize outL l t = l2 at *
  generalize dropB s t = E0 at *
  generalize dropO s t = q at *
  have tt : (E0 == E0) = true := by simp
  go_enter Try.func9, Try.ntmps9
  go_wp2_with fail
  rw [← hw1, ← hb]
  clear hw1 hb
  go_wp2_with fail
  refine (C1.out _ HB1.out).mono ?_
  rintro e w3 ⟨a3, c3, rfl, hr3, hB3, hk3⟩
  have z3 : w3.cell? ⟨b, 1, none⟩ = some (.int .i64 t) := HK.out _ _ _ hk3 rfl P1.out
  have HB3 := hide hB3
  have HR3 := hide hr3
  clear hr3 hB3 hk3 HB1 C1 p0 p1 P1 HK
  go_wp2_with fail
  refine (C2.out _ _ HB3.out).mono ?_
  rintro e w4 ⟨a4, c4, rfl, hr4, hB4, hk4⟩
  have HI := hide (same_ints a3 a4 c3 c4 q w4 HQL.out (HR3.out.kept hk4).row hr4)
  have HB4 := hide hB4
  clear hr4 hB4 hk4 HB3 HR3 C2 z3
  go_wp2_with fail
  refine HI.out.mono ?_
  rintro e w5 ⟨rfl, hb5⟩
  have HB5 := hide (HB4.out.below hb5)
  clear hb5 HB4 HI
  go_wp2
  go_ret
  refine ⟨rfl, s2, l2, HFIN.out.1, HFIN.out.2, HB5.out.mono (fun _ h => h.elim)⟩

set_option maxRecDepth 20000 in
set_option maxHeartbeats 4000000 in
theorem does_1 (W0 : World) (M R : Nat) (s : St) (l : List Wn) (hr : Rep s l) (hl : l.length ≤ 999) (d t : Int) (hd : d.tmod 12 = 1) (w : World) (h : Bth W0 M R none0 s l w) :
    Calls Try.prog 9 #[.pointer (some ⟨M, 0, none⟩), .pointer (some ⟨R, 0, none⟩), .agg #[.int .u8 d, .int .i64 t]] w fun e w' => e = .returned (.bool true) ∧ After W0 M R l w' := by
  have hl1 : l.length ≤ 1000 := by omega
  have hs := hr.lens hl1
  have J := want_w hr t
  have HFIN : Hid (Rep (tryS s t) (wantL l t true false) ∧ (wantL l t true false).length ≤ l.length + 1) := ⟨J.2.2.1, want_len _ _ _ _⟩
  obtain ⟨b, hb⟩ : ∃ b, b = w.heap.size := ⟨_, rfl⟩
  have C1 := hide (fun W (k : Bth W0 M R (fun k => k = b) s l W) => b_try hs t k)
  have C2 : Hid (∀ W, Bth W0 M R (fun k => k = b) (tryS s t) l W → Calls Try.prog 24 #[.pointer (some ⟨R, 0, none⟩), .int .i64 t, .bool true, .bool false] W fun e w' => e = .returned (.int .i64 (writeE 12 s t)) ∧ Bth W0 M R (fun k => k = b) (tryS s t) (wantL l t true false) w' ∧ Kept (fun k => k = b) W w') := hide fun W k => by
    have := r_want hl1 t true false k
    rw [J.1] at this
    exact this
  have HK : Hid (∀ W W', Kept (fun k => k = b) W W' → W.cell? ⟨b, 1, none⟩ = some (.int .i64 t) → W'.cell? ⟨b, 1, none⟩ = some (.int .i64 t)) := hide fun W W' k c => (World.cell?_of_block (k.1 b rfl)).trans c
  obtain ⟨w1, hw1⟩ : ∃ w1, w1 = w.alloc (.cells #[.int .u8 d, .int .i64 t] 31) := ⟨_, rfl⟩
  have HB1 : Hid (Bth W0 M R (fun k => k = b) s l w1) := hide (by rw [hw1, hb]; exact h.boxed _)
  have p0 : w1.cell? ⟨b, 0, none⟩ = some (.int .u8 d) := by rw [hw1, hb]; exact Lib.cell_of_heap (heap_alloc_new _ _) 0
  have p1 : w1.cell? ⟨b, 1, none⟩ = some (.int .i64 t) := by rw [hw1, hb]; exact Lib.cell_of_heap (heap_alloc_new _ _) 1
  have P1 := hide p1
  have hll : Hid ((wantL l t true false).length ≤ l.length + 1) := HFIN.out.2
  clear h hr hs hl1 J
  generalize tryS s t = s2 at *
  generalize wantL l t true false = l2 at *
  generalize writeE 12 s t = E0 at *
  have tt : (E0 == E0) = true := by simp
  go_enter Try.func9, Try.ntmps9
  go_wp2_with fail
  rw [← hw1, ← hb]
  clear hw1 hb
  go_wp2_with fail
  go_region_held3 (fun w' => w'.cell? ⟨b, 1, none⟩ = some (.int .i64 t)) (first | assumption | go_keep) (first | (go_at_call 22; refine (C1.out _ HB1.out.drew).mono ?_; rintro e w3 ⟨rfl, hB3, hk3⟩; have z3 : w3.cell? ⟨b, 1, none⟩ = some (.int .i64 t) := HK.out _ _ hk3 P1.out) | (go_at_call 24; refine (C2.out _ hB3).mono ?_; rintro e w4 ⟨rfl, hB4, hk4⟩; have z4 : w4.cell? ⟨b, 1, none⟩ = some (.int .i64 t) := HK.out _ _ hk4 z3))
  have HB4 := hide hB4
  clear hB4 hB3 hk3 hk4 z3 z4 HB1 C1 C2 HK P1
  go_wp2
  go_ret
  refine ⟨rfl, s2, l2, HFIN.out.1, HFIN.out.2, HB4.out.mono (fun _ h => h.elim)⟩

set_option maxRecDepth 20000 in
set_option maxHeartbeats 4000000 in
theorem does_2 (W0 : World) (M R : Nat) (s : St) (l : List Wn) (hr : Rep s l) (hl : l.length ≤ 999) (d t : Int) (hd : d.tmod 12 = 2) (w : World) (h : Bth W0 M R none0 s l w) :
    Calls Try.prog 9 #[.pointer (some ⟨M, 0, none⟩), .pointer (some ⟨R, 0, none⟩), .agg #[.int .u8 d, .int .i64 t]] w fun e w' => e = .returned (.bool true) ∧ After W0 M R l w' := by
  have hl1 : l.length ≤ 1000 := by omega
  have hs := hr.lens hl1
  have J := want_r hr t
  have HFIN : Hid (Rep (tryRS s t) (wantL l t false false) ∧ (wantL l t false false).length ≤ l.length + 1) := ⟨J.2.2.1, want_len _ _ _ _⟩
  obtain ⟨b, hb⟩ : ∃ b, b = w.heap.size := ⟨_, rfl⟩
  have C1 := hide (fun W (k : Bth W0 M R (fun k => k = b) s l W) => b_tryR hs t k)
  have C2 : Hid (∀ W, Bth W0 M R (fun k => k = b) (tryRS s t) l W → Calls Try.prog 24 #[.pointer (some ⟨R, 0, none⟩), .int .i64 t, .bool false, .bool false] W fun e w' => e = .returned (.int .i64 (readE 12 s t)) ∧ Bth W0 M R (fun k => k = b) (tryRS s t) (wantL l t false false) w' ∧ Kept (fun k => k = b) W w') := hide fun W k => by
    have := r_want hl1 t false false k
    rw [J.1] at this
    exact this
  have HK : Hid (∀ W W', Kept (fun k => k = b) W W' → W.cell? ⟨b, 1, none⟩ = some (.int .i64 t) → W'.cell? ⟨b, 1, none⟩ = some (.int .i64 t)) := hide fun W W' k c => (World.cell?_of_block (k.1 b rfl)).trans c
  obtain ⟨w1, hw1⟩ : ∃ w1, w1 = w.alloc (.cells #[.int .u8 d, .int .i64 t] 31) := ⟨_, rfl⟩
  have HB1 : Hid (Bth W0 M R (fun k => k = b) s l w1) := hide (by rw [hw1, hb]; exact h.boxed _)
  have p0 : w1.cell? ⟨b, 0, none⟩ = some (.int .u8 d) := by rw [hw1, hb]; exact Lib.cell_of_heap (heap_alloc_new _ _) 0
  have p1 : w1.cell? ⟨b, 1, none⟩ = some (.int .i64 t) := by rw [hw1, hb]; exact Lib.cell_of_heap (heap_alloc_new _ _) 1
  have P1 := hide p1
  have hll : Hid ((wantL l t false false).length ≤ l.length + 1) := HFIN.out.2
  clear h hr hs hl1 J
  generalize tryRS s t = s2 at *
  generalize wantL l t false false = l2 at *
  generalize readE 12 s t = E0 at *
  have tt : (E0 == E0) = true := by simp
  go_enter Try.func9, Try.ntmps9
  go_wp2_with fail
  rw [← hw1, ← hb]
  clear hw1 hb
  go_wp2_with fail
  go_region_held3 (fun w' => w'.cell? ⟨b, 1, none⟩ = some (.int .i64 t)) (first | assumption | go_keep) (first | (go_at_call 17; refine (C1.out _ HB1.out.drew).mono ?_; rintro e w3 ⟨rfl, hB3, hk3⟩; have z3 : w3.cell? ⟨b, 1, none⟩ = some (.int .i64 t) := HK.out _ _ hk3 P1.out) | (go_at_call 24; refine (C2.out _ hB3).mono ?_; rintro e w4 ⟨rfl, hB4, hk4⟩; have z4 : w4.cell? ⟨b, 1, none⟩ = some (.int .i64 t) := HK.out _ _ hk4 z3))
  have HB4 := hide hB4
  clear hB4 hB3 hk3 hk4 z3 z4 HB1 C1 C2 HK P1
  go_wp2
  go_ret
  refine ⟨rfl, s2, l2, HFIN.out.1, HFIN.out.2, HB4.out.mono (fun _ h => h.elim)⟩

set_option maxRecDepth 20000 in
set_option maxHeartbeats 4000000 in
theorem does_3 (W0 : World) (M R : Nat) (s : St) (l : List Wn) (hr : Rep s l) (hl : l.length ≤ 999) (d t : Int) (hd : d.tmod 12 = 3) (w : World) (h : Bth W0 M R none0 s l w) :
    Calls Try.prog 9 #[.pointer (some ⟨M, 0, none⟩), .pointer (some ⟨R, 0, none⟩), .agg #[.int .u8 d, .int .i64 t]] w fun e w' => e = .returned (.bool true) ∧ After W0 M R l w' := by
  have hl1 : l.length ≤ 1000 := by omega
  have hs := hr.lens hl1
  have J := want_w hr t
  have HFIN : Hid (Rep (lockS s t) (wantL l t true true) ∧ (wantL l t true true).length ≤ l.length + 1) := ⟨J.2.2.2, want_len _ _ _ _⟩
  obtain ⟨b, hb⟩ : ∃ b, b = w.heap.size := ⟨_, rfl⟩
  have C1 := hide (fun W (k : Bth W0 M R (fun k => k = b) s l W) => b_lock hs t k)
  have C2 : Hid (∀ W, Bth W0 M R (fun k => k = b) (lockS s t) l W → Calls Try.prog 24 #[.pointer (some ⟨R, 0, none⟩), .int .i64 t, .bool true, .bool true] W fun e w' => e = .returned (.int .i64 (writeE 14 s t)) ∧ Bth W0 M R (fun k => k = b) (lockS s t) (wantL l t true true) w' ∧ Kept (fun k => k = b) W w') := hide fun W k => by
    have := r_want hl1 t true true k
    rw [J.2.1] at this
    exact this
  have HK : Hid (∀ W W', Kept (fun k => k = b) W W' → W.cell? ⟨b, 1, none⟩ = some (.int .i64 t) → W'.cell? ⟨b, 1, none⟩ = some (.int .i64 t)) := hide fun W W' k c => (World.cell?_of_block (k.1 b rfl)).trans c
  obtain ⟨w1, hw1⟩ : ∃ w1, w1 = w.alloc (.cells #[.int .u8 d, .int .i64 t] 31) := ⟨_, rfl⟩
  have HB1 : Hid (Bth W0 M R (fun k => k = b) s l w1) := hide (by rw [hw1, hb]; exact h.boxed _)
  have p0 : w1.cell? ⟨b, 0, none⟩ = some (.int .u8 d) := by rw [hw1, hb]; exact Lib.cell_of_heap (heap_alloc_new _ _) 0
  have p1 : w1.cell? ⟨b, 1, none⟩ = some (.int .i64 t) := by rw [hw1, hb]; exact Lib.cell_of_heap (heap_alloc_new _ _) 1
  have P1 := hide p1
  have hll : Hid ((wantL l t true true).length ≤ l.length + 1) := HFIN.out.2
  clear h hr hs hl1 J
  generalize lockS s t = s2 at *
  generalize wantL l t true true = l2 at *
  generalize writeE 14 s t = E0 at *
  have tt : (E0 == E0) = true := by simp
  go_enter Try.func9, Try.ntmps9
  go_wp2_with fail
  rw [← hw1, ← hb]
  clear hw1 hb
  go_wp2_with fail
  go_region_held3 (fun w' => w'.cell? ⟨b, 1, none⟩ = some (.int .i64 t)) (first | assumption | go_keep) (first | (go_at_call 15; refine (C1.out _ HB1.out.drew).mono ?_; rintro e w3 ⟨rfl, hB3, hk3⟩; have z3 : w3.cell? ⟨b, 1, none⟩ = some (.int .i64 t) := HK.out _ _ hk3 P1.out) | (go_at_call 24; refine (C2.out _ hB3).mono ?_; rintro e w4 ⟨rfl, hB4, hk4⟩; have z4 : w4.cell? ⟨b, 1, none⟩ = some (.int .i64 t) := HK.out _ _ hk4 z3))
  have HB4 := hide hB4
  clear hB4 hB3 hk3 hk4 z3 z4 HB1 C1 C2 HK P1
  go_wp2
  go_ret
  refine ⟨rfl, s2, l2, HFIN.out.1, HFIN.out.2, HB4.out.mono (fun _ h => h.elim)⟩

set_option maxRecDepth 20000 in
set_option maxHeartbeats 4000000 in
theorem does_4 (W0 : World) (M R : Nat) (s : St) (l : List Wn) (hr : Rep s l) (hl : l.length ≤ 999) (d t : Int) (hd : d.tmod 12 = 4) (w : World) (h : Bth W0 M R none0 s l w) :
    Calls Try.prog 9 #[.pointer (some ⟨M, 0, none⟩), .pointer (some ⟨R, 0, none⟩), .agg #[.int .u8 d, .int .i64 t]] w fun e w' => e = .returned (.bool true) ∧ After W0 M R l w' := by
  have hl1 : l.length ≤ 1000 := by omega
  have hs := hr.lens hl1
  have J := want_w hr t
  have HFIN : Hid (Rep (lockS s t) (wantL l t true true) ∧ (wantL l t true true).length ≤ l.length + 1) := ⟨J.2.2.2, want_len _ _ _ _⟩
  obtain ⟨b, hb⟩ : ∃ b, b = w.heap.size := ⟨_, rfl⟩
  have C1 := hide (fun W (k : Bth W0 M R (fun k => k = b) s l W) => b_lock hs t k)
  have C2 : Hid (∀ W, Bth W0 M R (fun k => k = b) (lockS s t) l W → Calls Try.prog 24 #[.pointer (some ⟨R, 0, none⟩), .int .i64 t, .bool true, .bool true] W fun e w' => e = .returned (.int .i64 (writeE 14 s t)) ∧ Bth W0 M R (fun k => k = b) (lockS s t) (wantL l t true true) w' ∧ Kept (fun k => k = b) W w') := hide fun W k => by
    have := r_want hl1 t true true k
    rw [J.2.1] at this
    exact this
  have HK : Hid (∀ W W', Kept (fun k => k = b) W W' → W.cell? ⟨b, 1, none⟩ = some (.int .i64 t) → W'.cell? ⟨b, 1, none⟩ = some (.int .i64 t)) := hide fun W W' k c => (World.cell?_of_block (k.1 b rfl)).trans c
  obtain ⟨w1, hw1⟩ : ∃ w1, w1 = w.alloc (.cells #[.int .u8 d, .int .i64 t] 31) := ⟨_, rfl⟩
  have HB1 : Hid (Bth W0 M R (fun k => k = b) s l w1) := hide (by rw [hw1, hb]; exact h.boxed _)
  have p0 : w1.cell? ⟨b, 0, none⟩ = some (.int .u8 d) := by rw [hw1, hb]; exact Lib.cell_of_heap (heap_alloc_new _ _) 0
  have p1 : w1.cell? ⟨b, 1, none⟩ = some (.int .i64 t) := by rw [hw1, hb]; exact Lib.cell_of_heap (heap_alloc_new _ _) 1
  have P1 := hide p1
  have hll : Hid ((wantL l t true true).length ≤ l.length + 1) := HFIN.out.2
  clear h hr hs hl1 J
  generalize lockS s t = s2 at *
  generalize wantL l t true true = l2 at *
  generalize writeE 14 s t = E0 at *
  have tt : (E0 == E0) = true := by simp
  go_enter Try.func9, Try.ntmps9
  go_wp2_with fail
  rw [← hw1, ← hb]
  clear hw1 hb
  go_wp2_with fail
  go_region_held3 (fun w' => w'.cell? ⟨b, 1, none⟩ = some (.int .i64 t)) (first | assumption | go_keep) (first | (go_at_call 15; refine (C1.out _ HB1.out.drew).mono ?_; rintro e w3 ⟨rfl, hB3, hk3⟩; have z3 : w3.cell? ⟨b, 1, none⟩ = some (.int .i64 t) := HK.out _ _ hk3 P1.out) | (go_at_call 24; refine (C2.out _ hB3).mono ?_; rintro e w4 ⟨rfl, hB4, hk4⟩; have z4 : w4.cell? ⟨b, 1, none⟩ = some (.int .i64 t) := HK.out _ _ hk4 z3))
  have HB4 := hide hB4
  clear hB4 hB3 hk3 hk4 z3 z4 HB1 C1 C2 HK P1
  go_wp2
  go_ret
  refine ⟨rfl, s2, l2, HFIN.out.1, HFIN.out.2, HB4.out.mono (fun _ h => h.elim)⟩

set_option maxRecDepth 20000 in
set_option maxHeartbeats 4000000 in
theorem does_5 (W0 : World) (M R : Nat) (s : St) (l : List Wn) (hr : Rep s l) (hl : l.length ≤ 999) (d t : Int) (hd : d.tmod 12 = 5) (w : World) (h : Bth W0 M R none0 s l w) :
    Calls Try.prog 9 #[.pointer (some ⟨M, 0, none⟩), .pointer (some ⟨R, 0, none⟩), .agg #[.int .u8 d, .int .i64 t]] w fun e w' => e = .returned (.bool true) ∧ After W0 M R l w' := by
  have hl1 : l.length ≤ 1000 := by omega
  have hs := hr.lens hl1
  have hnd := hr.nds
  have J := give_w hr t
  have HFIN : Hid (Rep (unS s t) (giveL l t true) ∧ (giveL l t true).length ≤ l.length + 1) := ⟨J.2.2, give_len hr.k.nd _ _⟩
  obtain ⟨b, hb⟩ : ∃ b, b = w.heap.size := ⟨_, rfl⟩
  have C1 := hide (fun W (k : Bth W0 M R (fun k => k = b) s l W) => b_unlock hs hnd t k)
  have C2 : Hid (∀ F W, Bth W0 M R F (unS s t) l W → Calls Try.prog 25 #[.pointer (some ⟨R, 0, none⟩), .int .i64 t, .bool true] W fun e w' => ∃ a c, e = .returned (.tuple #[.slice a (unO s t).length c, .int .i64 (unE s t)]) ∧ RowZ w' a (unO s t) ∧ Bth W0 M R F (unS s t) (giveL l t true) w' ∧ Kept F W w') := hide fun F W k => by
    have := r_give hl1 hr.k.nd t true k
    rw [J.1, J.2.1] at this
    exact this
  have HK : Hid (∀ F W W', Kept F W W' → F b → W.cell? ⟨b, 1, none⟩ = some (.int .i64 t) → W'.cell? ⟨b, 1, none⟩ = some (.int .i64 t)) := hide fun F W W' k f c => (World.cell?_of_block (k.1 b f)).trans c
  have HQL : Hid ((unO s t).length ≤ 1000) := hide (by rw [← J.2.1]; exact giveO_len hl1 t true)
  obtain ⟨w1, hw1⟩ : ∃ w1, w1 = w.alloc (.cells #[.int .u8 d, .int .i64 t] 31) := ⟨_, rfl⟩
  have HB1 : Hid (Bth W0 M R (fun k => k = b) s l w1) := hide (by rw [hw1, hb]; exact h.boxed _)
  have p0 : w1.cell? ⟨b, 0, none⟩ = some (.int .u8 d) := by rw [hw1, hb]; exact Lib.cell_of_heap (heap_alloc_new _ _) 0
  have p1 : w1.cell? ⟨b, 1, none⟩ = some (.int .i64 t) := by rw [hw1, hb]; exact Lib.cell_of_heap (heap_alloc_new _ _) 1
  have P1 := hide p1
  clear h hr hs hl1 J hnd
  generalize unS s t = s2 at *
  generalize giveL l t true = l2 at *
  generalize unE s t = E0 at *
  generalize unO s t = q at *
  have tt : (E0 == E0) = true := by simp
  go_enter Try.func9, Try.ntmps9
  go_wp2_with fail
  rw [← hw1, ← hb]
  clear hw1 hb
  go_wp2_with fail
  refine (C1.out _ HB1.out).mono ?_
  rintro e w3 ⟨a3, c3, rfl, hr3, hB3, hk3⟩
  have z3 : w3.cell? ⟨b, 1, none⟩ = some (.int .i64 t) := HK.out _ _ _ hk3 rfl P1.out
  have HB3 := hide hB3
  have HR3 := hide hr3
  clear hr3 hB3 hk3 HB1 C1 p0 p1 P1 HK
  go_wp2_with fail
  refine (C2.out _ _ HB3.out).mono ?_
  rintro e w4 ⟨a4, c4, rfl, hr4, hB4, hk4⟩
  have HI := hide (same_ints a3 a4 c3 c4 q w4 HQL.out (HR3.out.kept hk4).row hr4)
  have HB4 := hide hB4
  clear hr4 hB4 hk4 HB3 HR3 C2 z3
  go_wp2_with fail
  refine HI.out.mono ?_
  rintro e w5 ⟨rfl, hb5⟩
  have HB5 := hide (HB4.out.below hb5)
  clear hb5 HB4 HI
  go_wp2
  go_ret
  refine ⟨rfl, s2, l2, HFIN.out.1, HFIN.out.2, HB5.out.mono (fun _ h => h.elim)⟩

set_option maxRecDepth 20000 in
set_option maxHeartbeats 4000000 in
theorem does_6 (W0 : World) (M R : Nat) (s : St) (l : List Wn) (hr : Rep s l) (hl : l.length ≤ 999) (d t : Int) (hd : d.tmod 12 = 6) (w : World) (h : Bth W0 M R none0 s l w) :
    Calls Try.prog 9 #[.pointer (some ⟨M, 0, none⟩), .pointer (some ⟨R, 0, none⟩), .agg #[.int .u8 d, .int .i64 t]] w fun e w' => e = .returned (.bool true) ∧ After W0 M R l w' := by
  have hl1 : l.length ≤ 1000 := by omega
  have hs := hr.lens hl1
  have hnd := hr.nds
  have J := give_w hr t
  have HFIN : Hid (Rep (unS s t) (giveL l t true) ∧ (giveL l t true).length ≤ l.length + 1) := ⟨J.2.2, give_len hr.k.nd _ _⟩
  obtain ⟨b, hb⟩ : ∃ b, b = w.heap.size := ⟨_, rfl⟩
  have C1 := hide (fun W (k : Bth W0 M R (fun k => k = b) s l W) => b_unlock hs hnd t k)
  have C2 : Hid (∀ F W, Bth W0 M R F (unS s t) l W → Calls Try.prog 25 #[.pointer (some ⟨R, 0, none⟩), .int .i64 t, .bool true] W fun e w' => ∃ a c, e = .returned (.tuple #[.slice a (unO s t).length c, .int .i64 (unE s t)]) ∧ RowZ w' a (unO s t) ∧ Bth W0 M R F (unS s t) (giveL l t true) w' ∧ Kept F W w') := hide fun F W k => by
    have := r_give hl1 hr.k.nd t true k
    rw [J.1, J.2.1] at this
    exact this
  have HK : Hid (∀ F W W', Kept F W W' → F b → W.cell? ⟨b, 1, none⟩ = some (.int .i64 t) → W'.cell? ⟨b, 1, none⟩ = some (.int .i64 t)) := hide fun F W W' k f c => (World.cell?_of_block (k.1 b f)).trans c
  have HQL : Hid ((unO s t).length ≤ 1000) := hide (by rw [← J.2.1]; exact giveO_len hl1 t true)
  obtain ⟨w1, hw1⟩ : ∃ w1, w1 = w.alloc (.cells #[.int .u8 d, .int .i64 t] 31) := ⟨_, rfl⟩
  have HB1 : Hid (Bth W0 M R (fun k => k = b) s l w1) := hide (by rw [hw1, hb]; exact h.boxed _)
  have p0 : w1.cell? ⟨b, 0, none⟩ = some (.int .u8 d) := by rw [hw1, hb]; exact Lib.cell_of_heap (heap_alloc_new _ _) 0
  have p1 : w1.cell? ⟨b, 1, none⟩ = some (.int .i64 t) := by rw [hw1, hb]; exact Lib.cell_of_heap (heap_alloc_new _ _) 1
  have P1 := hide p1
  clear h hr hs hl1 J hnd
  generalize unS s t = s2 at *
  generalize giveL l t true = l2 at *
  generalize unE s t = E0 at *
  generalize unO s t = q at *
  have tt : (E0 == E0) = true := by simp
  go_enter Try.func9, Try.ntmps9
  go_wp2_with fail
  rw [← hw1, ← hb]
  clear hw1 hb
  go_wp2_with fail
  refine (C1.out _ HB1.out).mono ?_
  rintro e w3 ⟨a3, c3, rfl, hr3, hB3, hk3⟩
  have z3 : w3.cell? ⟨b, 1, none⟩ = some (.int .i64 t) := HK.out _ _ _ hk3 rfl P1.out
  have HB3 := hide hB3
  have HR3 := hide hr3
  clear hr3 hB3 hk3 HB1 C1 p0 p1 P1 HK
  go_wp2_with fail
  refine (C2.out _ _ HB3.out).mono ?_
  rintro e w4 ⟨a4, c4, rfl, hr4, hB4, hk4⟩
  have HI := hide (same_ints a3 a4 c3 c4 q w4 HQL.out (HR3.out.kept hk4).row hr4)
  have HB4 := hide hB4
  clear hr4 hB4 hk4 HB3 HR3 C2 z3
  go_wp2_with fail
  refine HI.out.mono ?_
  rintro e w5 ⟨rfl, hb5⟩
  have HB5 := hide (HB4.out.below hb5)
  clear hb5 HB4 HI
  go_wp2
  go_ret
  refine ⟨rfl, s2, l2, HFIN.out.1, HFIN.out.2, HB5.out.mono (fun _ h => h.elim)⟩

set_option maxRecDepth 20000 in
set_option maxHeartbeats 4000000 in
theorem does_7 (W0 : World) (M R : Nat) (s : St) (l : List Wn) (hr : Rep s l) (hl : l.length ≤ 999) (d t : Int) (hd : d.tmod 12 = 7) (w : World) (h : Bth W0 M R none0 s l w) :
    Calls Try.prog 9 #[.pointer (some ⟨M, 0, none⟩), .pointer (some ⟨R, 0, none⟩), .agg #[.int .u8 d, .int .i64 t]] w fun e w' => e = .returned (.bool true) ∧ After W0 M R l w' := by
  have hl1 : l.length ≤ 1000 := by omega
  have hs := hr.lens hl1
  have hnd := hr.nds
  have J := give_r hr t
  have HFIN : Hid (Rep (runS s t) (giveL l t false) ∧ (giveL l t false).length ≤ l.length + 1) := ⟨J.2.2, give_len hr.k.nd _ _⟩
  obtain ⟨b, hb⟩ : ∃ b, b = w.heap.size := ⟨_, rfl⟩
  have C1 := hide (fun W (k : Bth W0 M R (fun k => k = b) s l W) => b_runlock hs hnd t k)
  have C2 : Hid (∀ F W, Bth W0 M R F (runS s t) l W → Calls Try.prog 25 #[.pointer (some ⟨R, 0, none⟩), .int .i64 t, .bool false] W fun e w' => ∃ a c, e = .returned (.tuple #[.slice a (runO s t).length c, .int .i64 (runE s t)]) ∧ RowZ w' a (runO s t) ∧ Bth W0 M R F (runS s t) (giveL l t false) w' ∧ Kept F W w') := hide fun F W k => by
    have := r_give hl1 hr.k.nd t false k
    rw [J.1, J.2.1] at this
    exact this
  have HK : Hid (∀ F W W', Kept F W W' → F b → W.cell? ⟨b, 1, none⟩ = some (.int .i64 t) → W'.cell? ⟨b, 1, none⟩ = some (.int .i64 t)) := hide fun F W W' k f c => (World.cell?_of_block (k.1 b f)).trans c
  have HQL : Hid ((runO s t).length ≤ 1000) := hide (by rw [← J.2.1]; exact giveO_len hl1 t false)
  obtain ⟨w1, hw1⟩ : ∃ w1, w1 = w.alloc (.cells #[.int .u8 d, .int .i64 t] 31) := ⟨_, rfl⟩
  have HB1 : Hid (Bth W0 M R (fun k => k = b) s l w1) := hide (by rw [hw1, hb]; exact h.boxed _)
  have p0 : w1.cell? ⟨b, 0, none⟩ = some (.int .u8 d) := by rw [hw1, hb]; exact Lib.cell_of_heap (heap_alloc_new _ _) 0
  have p1 : w1.cell? ⟨b, 1, none⟩ = some (.int .i64 t) := by rw [hw1, hb]; exact Lib.cell_of_heap (heap_alloc_new _ _) 1
  have P1 := hide p1
  clear h hr hs hl1 J hnd
  generalize runS s t = s2 at *
  generalize giveL l t false = l2 at *
  generalize runE s t = E0 at *
  generalize runO s t = q at *
  have tt : (E0 == E0) = true := by simp
  go_enter Try.func9, Try.ntmps9
  go_wp2_with fail
  rw [← hw1, ← hb]
  clear hw1 hb
  go_wp2_with fail
  refine (C1.out _ HB1.out).mono ?_
  rintro e w3 ⟨a3, c3, rfl, hr3, hB3, hk3⟩
  have z3 : w3.cell? ⟨b, 1, none⟩ = some (.int .i64 t) := HK.out _ _ _ hk3 rfl P1.out
  have HB3 := hide hB3
  have HR3 := hide hr3
  clear hr3 hB3 hk3 HB1 C1 p0 p1 P1 HK
  go_wp2_with fail
  refine (C2.out _ _ HB3.out).mono ?_
  rintro e w4 ⟨a4, c4, rfl, hr4, hB4, hk4⟩
  have HI := hide (same_ints a3 a4 c3 c4 q w4 HQL.out (HR3.out.kept hk4).row hr4)
  have HB4 := hide hB4
  clear hr4 hB4 hk4 HB3 HR3 C2 z3
  go_wp2_with fail
  refine HI.out.mono ?_
  rintro e w5 ⟨rfl, hb5⟩
  have HB5 := hide (HB4.out.below hb5)
  clear hb5 HB4 HI
  go_wp2
  go_ret
  refine ⟨rfl, s2, l2, HFIN.out.1, HFIN.out.2, HB5.out.mono (fun _ h => h.elim)⟩

set_option maxRecDepth 20000 in
set_option maxHeartbeats 4000000 in
theorem does_8 (W0 : World) (M R : Nat) (s : St) (l : List Wn) (hr : Rep s l) (hl : l.length ≤ 999) (d t : Int) (hd : d.tmod 12 = 8) (w : World) (h : Bth W0 M R none0 s l w) :
    Calls Try.prog 9 #[.pointer (some ⟨M, 0, none⟩), .pointer (some ⟨R, 0, none⟩), .agg #[.int .u8 d, .int .i64 t]] w fun e w' => e = .returned (.bool true) ∧ After W0 M R l w' := by
  have hl1 : l.length ≤ 1000 := by omega
  have hs := hr.lens hl1
  have hnd := hr.nds
  have J := give_r hr t
  have HFIN : Hid (Rep (runS s t) (giveL l t false) ∧ (giveL l t false).length ≤ l.length + 1) := ⟨J.2.2, give_len hr.k.nd _ _⟩
  obtain ⟨b, hb⟩ : ∃ b, b = w.heap.size := ⟨_, rfl⟩
  have C1 := hide (fun W (k : Bth W0 M R (fun k => k = b) s l W) => b_runlock hs hnd t k)
  have C2 : Hid (∀ F W, Bth W0 M R F (runS s t) l W → Calls Try.prog 25 #[.pointer (some ⟨R, 0, none⟩), .int .i64 t, .bool false] W fun e w' => ∃ a c, e = .returned (.tuple #[.slice a (runO s t).length c, .int .i64 (runE s t)]) ∧ RowZ w' a (runO s t) ∧ Bth W0 M R F (runS s t) (giveL l t false) w' ∧ Kept F W w') := hide fun F W k => by
    have := r_give hl1 hr.k.nd t false k
    rw [J.1, J.2.1] at this
    exact this
  have HK : Hid (∀ F W W', Kept F W W' → F b → W.cell? ⟨b, 1, none⟩ = some (.int .i64 t) → W'.cell? ⟨b, 1, none⟩ = some (.int .i64 t)) := hide fun F W W' k f c => (World.cell?_of_block (k.1 b f)).trans c
  have HQL : Hid ((runO s t).length ≤ 1000) := hide (by rw [← J.2.1]; exact giveO_len hl1 t false)
  obtain ⟨w1, hw1⟩ : ∃ w1, w1 = w.alloc (.cells #[.int .u8 d, .int .i64 t] 31) := ⟨_, rfl⟩
  have HB1 : Hid (Bth W0 M R (fun k => k = b) s l w1) := hide (by rw [hw1, hb]; exact h.boxed _)
  have p0 : w1.cell? ⟨b, 0, none⟩ = some (.int .u8 d) := by rw [hw1, hb]; exact Lib.cell_of_heap (heap_alloc_new _ _) 0
  have p1 : w1.cell? ⟨b, 1, none⟩ = some (.int .i64 t) := by rw [hw1, hb]; exact Lib.cell_of_heap (heap_alloc_new _ _) 1
  have P1 := hide p1
  clear h hr hs hl1 J hnd
  generalize runS s t = s2 at *
  generalize giveL l t false = l2 at *
  generalize runE s t = E0 at *
  generalize runO s t = q at *
  have tt : (E0 == E0) = true := by simp
  go_enter Try.func9, Try.ntmps9
  go_wp2_with fail
  rw [← hw1, ← hb]
  clear hw1 hb
  go_wp2_with fail
  refine (C1.out _ HB1.out).mono ?_
  rintro e w3 ⟨a3, c3, rfl, hr3, hB3, hk3⟩
  have z3 : w3.cell? ⟨b, 1, none⟩ = some (.int .i64 t) := HK.out _ _ _ hk3 rfl P1.out
  have HB3 := hide hB3
  have HR3 := hide hr3
  clear hr3 hB3 hk3 HB1 C1 p0 p1 P1 HK
  go_wp2_with fail
  refine (C2.out _ _ HB3.out).mono ?_
  rintro e w4 ⟨a4, c4, rfl, hr4, hB4, hk4⟩
  have HI := hide (same_ints a3 a4 c3 c4 q w4 HQL.out (HR3.out.kept hk4).row hr4)
  have HB4 := hide hB4
  clear hr4 hB4 hk4 HB3 HR3 C2 z3
  go_wp2_with fail
  refine HI.out.mono ?_
  rintro e w5 ⟨rfl, hb5⟩
  have HB5 := hide (HB4.out.below hb5)
  clear hb5 HB4 HI
  go_wp2
  go_ret
  refine ⟨rfl, s2, l2, HFIN.out.1, HFIN.out.2, HB5.out.mono (fun _ h => h.elim)⟩

set_option maxRecDepth 20000 in
set_option maxHeartbeats 4000000 in
theorem does_9 (W0 : World) (M R : Nat) (s : St) (l : List Wn) (hr : Rep s l) (hl : l.length ≤ 999) (d t : Int) (hd : d.tmod 12 = 9) (w : World) (h : Bth W0 M R none0 s l w) :
    Calls Try.prog 9 #[.pointer (some ⟨M, 0, none⟩), .pointer (some ⟨R, 0, none⟩), .agg #[.int .u8 d, .int .i64 t]] w fun e w' => e = .returned (.bool true) ∧ After W0 M R l w' := by
  have hl1 : l.length ≤ 1000 := by omega
  have hs := hr.lens hl1
  have J := want_r hr t
  have HFIN : Hid (Rep (rlockS s t) (wantL l t false true) ∧ (wantL l t false true).length ≤ l.length + 1) := ⟨J.2.2.2, want_len _ _ _ _⟩
  obtain ⟨b, hb⟩ : ∃ b, b = w.heap.size := ⟨_, rfl⟩
  have C1 := hide (fun W (k : Bth W0 M R (fun k => k = b) s l W) => b_rlock hs t k)
  have C2 : Hid (∀ W, Bth W0 M R (fun k => k = b) (rlockS s t) l W → Calls Try.prog 24 #[.pointer (some ⟨R, 0, none⟩), .int .i64 t, .bool false, .bool true] W fun e w' => e = .returned (.int .i64 (readE 14 s t)) ∧ Bth W0 M R (fun k => k = b) (rlockS s t) (wantL l t false true) w' ∧ Kept (fun k => k = b) W w') := hide fun W k => by
    have := r_want hl1 t false true k
    rw [J.2.1] at this
    exact this
  have HK : Hid (∀ W W', Kept (fun k => k = b) W W' → W.cell? ⟨b, 1, none⟩ = some (.int .i64 t) → W'.cell? ⟨b, 1, none⟩ = some (.int .i64 t)) := hide fun W W' k c => (World.cell?_of_block (k.1 b rfl)).trans c
  obtain ⟨w1, hw1⟩ : ∃ w1, w1 = w.alloc (.cells #[.int .u8 d, .int .i64 t] 31) := ⟨_, rfl⟩
  have HB1 : Hid (Bth W0 M R (fun k => k = b) s l w1) := hide (by rw [hw1, hb]; exact h.boxed _)
  have p0 : w1.cell? ⟨b, 0, none⟩ = some (.int .u8 d) := by rw [hw1, hb]; exact Lib.cell_of_heap (heap_alloc_new _ _) 0
  have p1 : w1.cell? ⟨b, 1, none⟩ = some (.int .i64 t) := by rw [hw1, hb]; exact Lib.cell_of_heap (heap_alloc_new _ _) 1
  have P1 := hide p1
  have hll : Hid ((wantL l t false true).length ≤ l.length + 1) := HFIN.out.2
  clear h hr hs hl1 J
  generalize rlockS s t = s2 at *
  generalize wantL l t false true = l2 at *
  generalize readE 14 s t = E0 at *
  have tt : (E0 == E0) = true := by simp
  go_enter Try.func9, Try.ntmps9
  go_wp2_with fail
  rw [← hw1, ← hb]
  clear hw1 hb
  go_wp2_with fail
  go_region_held3 (fun w' => w'.cell? ⟨b, 1, none⟩ = some (.int .i64 t)) (first | assumption | go_keep) (first | (go_at_call 16; refine (C1.out _ HB1.out.drew).mono ?_; rintro e w3 ⟨rfl, hB3, hk3⟩; have z3 : w3.cell? ⟨b, 1, none⟩ = some (.int .i64 t) := HK.out _ _ hk3 P1.out) | (go_at_call 24; refine (C2.out _ hB3).mono ?_; rintro e w4 ⟨rfl, hB4, hk4⟩; have z4 : w4.cell? ⟨b, 1, none⟩ = some (.int .i64 t) := HK.out _ _ hk4 z3))
  have HB4 := hide hB4
  clear hB4 hB3 hk3 hk4 z3 z4 HB1 C1 C2 HK P1
  go_wp2
  go_ret
  refine ⟨rfl, s2, l2, HFIN.out.1, HFIN.out.2, HB4.out.mono (fun _ h => h.elim)⟩

set_option maxRecDepth 20000 in
set_option maxHeartbeats 4000000 in
theorem does_10 (W0 : World) (M R : Nat) (s : St) (l : List Wn) (hr : Rep s l) (hl : l.length ≤ 999) (d t : Int) (hd : d.tmod 12 = 10) (w : World) (h : Bth W0 M R none0 s l w) :
    Calls Try.prog 9 #[.pointer (some ⟨M, 0, none⟩), .pointer (some ⟨R, 0, none⟩), .agg #[.int .u8 d, .int .i64 t]] w fun e w' => e = .returned (.bool true) ∧ After W0 M R l w' := by
  have hl1 : l.length ≤ 1000 := by omega
  have hs := hr.lens hl1
  have J := want_r hr t
  have HFIN : Hid (Rep (rlockS s t) (wantL l t false true) ∧ (wantL l t false true).length ≤ l.length + 1) := ⟨J.2.2.2, want_len _ _ _ _⟩
  obtain ⟨b, hb⟩ : ∃ b, b = w.heap.size := ⟨_, rfl⟩
  have C1 := hide (fun W (k : Bth W0 M R (fun k => k = b) s l W) => b_rlock hs t k)
  have C2 : Hid (∀ W, Bth W0 M R (fun k => k = b) (rlockS s t) l W → Calls Try.prog 24 #[.pointer (some ⟨R, 0, none⟩), .int .i64 t, .bool false, .bool true] W fun e w' => e = .returned (.int .i64 (readE 14 s t)) ∧ Bth W0 M R (fun k => k = b) (rlockS s t) (wantL l t false true) w' ∧ Kept (fun k => k = b) W w') := hide fun W k => by
    have := r_want hl1 t false true k
    rw [J.2.1] at this
    exact this
  have HK : Hid (∀ W W', Kept (fun k => k = b) W W' → W.cell? ⟨b, 1, none⟩ = some (.int .i64 t) → W'.cell? ⟨b, 1, none⟩ = some (.int .i64 t)) := hide fun W W' k c => (World.cell?_of_block (k.1 b rfl)).trans c
  obtain ⟨w1, hw1⟩ : ∃ w1, w1 = w.alloc (.cells #[.int .u8 d, .int .i64 t] 31) := ⟨_, rfl⟩
  have HB1 : Hid (Bth W0 M R (fun k => k = b) s l w1) := hide (by rw [hw1, hb]; exact h.boxed _)
  have p0 : w1.cell? ⟨b, 0, none⟩ = some (.int .u8 d) := by rw [hw1, hb]; exact Lib.cell_of_heap (heap_alloc_new _ _) 0
  have p1 : w1.cell? ⟨b, 1, none⟩ = some (.int .i64 t) := by rw [hw1, hb]; exact Lib.cell_of_heap (heap_alloc_new _ _) 1
  have P1 := hide p1
  have hll : Hid ((wantL l t false true).length ≤ l.length + 1) := HFIN.out.2
  clear h hr hs hl1 J
  generalize rlockS s t = s2 at *
  generalize wantL l t false true = l2 at *
  generalize readE 14 s t = E0 at *
  have tt : (E0 == E0) = true := by simp
  go_enter Try.func9, Try.ntmps9
  go_wp2_with fail
  rw [← hw1, ← hb]
  clear hw1 hb
  go_wp2_with fail
  go_region_held3 (fun w' => w'.cell? ⟨b, 1, none⟩ = some (.int .i64 t)) (first | assumption | go_keep) (first | (go_at_call 16; refine (C1.out _ HB1.out.drew).mono ?_; rintro e w3 ⟨rfl, hB3, hk3⟩; have z3 : w3.cell? ⟨b, 1, none⟩ = some (.int .i64 t) := HK.out _ _ hk3 P1.out) | (go_at_call 24; refine (C2.out _ hB3).mono ?_; rintro e w4 ⟨rfl, hB4, hk4⟩; have z4 : w4.cell? ⟨b, 1, none⟩ = some (.int .i64 t) := HK.out _ _ hk4 z3))
  have HB4 := hide hB4
  clear hB4 hB3 hk3 hk4 z3 z4 HB1 C1 C2 HK P1
  go_wp2
  go_ret
  refine ⟨rfl, s2, l2, HFIN.out.1, HFIN.out.2, HB4.out.mono (fun _ h => h.elim)⟩

set_option maxRecDepth 20000 in
set_option maxHeartbeats 4000000 in
theorem does_11 (W0 : World) (M R : Nat) (s : St) (l : List Wn) (hr : Rep s l) (hl : l.length ≤ 999) (d t : Int) (hd : d.tmod 12 = 11) (w : World) (h : Bth W0 M R none0 s l w) :
    Calls Try.prog 9 #[.pointer (some ⟨M, 0, none⟩), .pointer (some ⟨R, 0, none⟩), .agg #[.int .u8 d, .int .i64 t]] w fun e w' => e = .returned (.bool true) ∧ After W0 M R l w' := by
  have hl1 : l.length ≤ 1000 := by omega
  have hs := hr.lens hl1
  have J := want_r hr t
  have HFIN : Hid (Rep (rlockS s t) (wantL l t false true) ∧ (wantL l t false true).length ≤ l.length + 1) := ⟨J.2.2.2, want_len _ _ _ _⟩
  obtain ⟨b, hb⟩ : ∃ b, b = w.heap.size := ⟨_, rfl⟩
  have C1 := hide (fun W (k : Bth W0 M R (fun k => k = b) s l W) => b_rlock hs t k)
  have C2 : Hid (∀ W, Bth W0 M R (fun k => k = b) (rlockS s t) l W → Calls Try.prog 24 #[.pointer (some ⟨R, 0, none⟩), .int .i64 t, .bool false, .bool true] W fun e w' => e = .returned (.int .i64 (readE 14 s t)) ∧ Bth W0 M R (fun k => k = b) (rlockS s t) (wantL l t false true) w' ∧ Kept (fun k => k = b) W w') := hide fun W k => by
    have := r_want hl1 t false true k
    rw [J.2.1] at this
    exact this
  have HK : Hid (∀ W W', Kept (fun k => k = b) W W' → W.cell? ⟨b, 1, none⟩ = some (.int .i64 t) → W'.cell? ⟨b, 1, none⟩ = some (.int .i64 t)) := hide fun W W' k c => (World.cell?_of_block (k.1 b rfl)).trans c
  obtain ⟨w1, hw1⟩ : ∃ w1, w1 = w.alloc (.cells #[.int .u8 d, .int .i64 t] 31) := ⟨_, rfl⟩
  have HB1 : Hid (Bth W0 M R (fun k => k = b) s l w1) := hide (by rw [hw1, hb]; exact h.boxed _)
  have p0 : w1.cell? ⟨b, 0, none⟩ = some (.int .u8 d) := by rw [hw1, hb]; exact Lib.cell_of_heap (heap_alloc_new _ _) 0
  have p1 : w1.cell? ⟨b, 1, none⟩ = some (.int .i64 t) := by rw [hw1, hb]; exact Lib.cell_of_heap (heap_alloc_new _ _) 1
  have P1 := hide p1
  have hll : Hid ((wantL l t false true).length ≤ l.length + 1) := HFIN.out.2
  clear h hr hs hl1 J
  generalize rlockS s t = s2 at *
  generalize wantL l t false true = l2 at *
  generalize readE 14 s t = E0 at *
  have tt : (E0 == E0) = true := by simp
  go_enter Try.func9, Try.ntmps9
  go_wp2_with fail
  rw [← hw1, ← hb]
  clear hw1 hb
  go_wp2_with fail
  go_region_held3 (fun w' => w'.cell? ⟨b, 1, none⟩ = some (.int .i64 t)) (first | assumption | go_keep) (first | (go_at_call 16; refine (C1.out _ HB1.out.drew).mono ?_; rintro e w3 ⟨rfl, hB3, hk3⟩; have z3 : w3.cell? ⟨b, 1, none⟩ = some (.int .i64 t) := HK.out _ _ hk3 P1.out) | (go_at_call 24; refine (C2.out _ hB3).mono ?_; rintro e w4 ⟨rfl, hB4, hk4⟩; have z4 : w4.cell? ⟨b, 1, none⟩ = some (.int .i64 t) := HK.out _ _ hk4 z3))
  have HB4 := hide hB4
  clear hB4 hB3 hk3 hk4 z3 z4 HB1 C1 C2 HK P1
  go_wp2
  go_ret
  refine ⟨rfl, s2, l2, HFIN.out.1, HFIN.out.2, HB4.out.mono (fun _ h => h.elim)⟩

theorem does_any (W0 : World) (M R : Nat) (s : St) (l : List Wn) (hr : Rep s l) (hl : l.length ≤ 999) (d t : Int) (hd : 0 ≤ d ∧ d ≤ 255) (w : World) (h : Bth W0 M R none0 s l w) :
    Calls Try.prog 9 #[.pointer (some ⟨M, 0, none⟩), .pointer (some ⟨R, 0, none⟩), .agg #[.int .u8 d, .int .i64 t]] w fun e w' => e = .returned (.bool true) ∧ After W0 M R l w' := by
  obtain ⟨m, hm, h12, _, _⟩ := u8_mod hd 12 (by omega) (by omega)
  rcases twelve h12 with rfl | rfl | rfl | rfl | rfl | rfl | rfl | rfl | rfl | rfl | rfl | rfl
  · exact does_0 W0 M R s l hr hl d t hm w h
  · exact does_1 W0 M R s l hr hl d t hm w h
  · exact does_2 W0 M R s l hr hl d t hm w h
  · exact does_3 W0 M R s l hr hl d t hm w h
  · exact does_4 W0 M R s l hr hl d t hm w h
  · exact does_5 W0 M R s l hr hl d t hm w h
  · exact does_6 W0 M R s l hr hl d t hm w h
  · exact does_7 W0 M R s l hr hl d t hm w h
  · exact does_8 W0 M R s l hr hl d t hm w h
  · exact does_9 W0 M R s l hr hl d t hm w h
  · exact does_10 W0 M R s l hr hl d t hm w h
  · exact does_11 W0 M R s l hr hl d t hm w h

end Go.Proofs.Ytggfndokmdpaeaa
