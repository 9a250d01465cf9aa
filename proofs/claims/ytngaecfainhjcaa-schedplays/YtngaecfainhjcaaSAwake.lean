/-
  The fixed fact that each statement asks comes out true.
-/
import Derived.Test.YtngaecfainhjcaaSInts
namespace Go.Proofs.Ytngaecfainhjcaa
open Go.RowKit A

def c0 : Sc := newS 2
def c1 : Sc := spawnOf c0
def c2 : Sc := spawnOf c1
def c3 : Sc := yieldOf c2 1
def c4 : Sc := blockOf c3 2
def c5 : Sc := exitOf c4 2
def c6 : Sc := spawnOf c5
theorem k0 : Okc 0 c0 := ok_newS 2
theorem k1 : Okc 0 c1 := k0.spawn
theorem k2 : Okc 0 c2 := k1.spawn
theorem k3 : Okc 0 c3 := k2.yield 1
theorem k4 : Okc 0 c4 := k3.block 2
theorem k5 : Okc 1 c5 := k4.exit 2
theorem k6 : Okc 1 c6 := k5.spawn
theorem s0 : pickH c0 0 = 1 ∧ pickB c0 0 = true := by decide
theorem s1 : takeH c0.a = 2 ∧ takeB c0.a = true := by decide
theorem s2 : takeH c1.a = 0 ∧ takeB c1.a = false := by decide
theorem s3 : inB c2.run 1 = true := by decide
theorem s4 : c3.run = [2, 1] := by decide
theorem s5 : inB c3.run 2 = true := by decide
theorem s6 : isB c4.a 2 = true := by decide
theorem s7 : takeH c5.a = 18 ∧ takeB c5.a = true := by decide
theorem s8 : placeOf c6.a 18 = 1 := by decide

set_option maxHeartbeats 4000000 in
theorem sawake_any (w : World) : Calls Try.prog 29 #[] w fun e w' => e = .returned (.bool true) ∧ Below w.heap.size w w' := by
  have N0 := hide (snew_any 2 w)
  have T0 : Hid (∀ S B P v W, AtS W S B P w.heap.size v c0 → Calls Try.prog 22 #[.pointer (some ⟨S, 0, none⟩), .int .i64 0] W fun e w' => e = .returned (.tuple #[.int .i64 1, .bool true]) ∧ w' = W) := fun S B P v W h => by
    have := pick_any S B P _ v c0 (by have := k0.len8; omega) 0 (by omega) W h; rw [s0.1, s0.2] at this; exact this
  have T1 : Hid (∀ S B P v W, AtS W S B P w.heap.size v c0 → w.heap.size ≤ W.heap.size → Calls Try.prog 12 #[.pointer (some ⟨S, 0, none⟩)] W fun e w' => e = .returned (.tuple #[.int .i64 2, .bool true]) ∧ NowS S B P w.heap.size v c1 W w') := fun S B P v W h hb => by
    have := spawn_any S B P _ 0 v c0 (by have := k0.len8; omega) (by omega) k0.fit W h hb; rw [s1.1, s1.2] at this; exact this
  have T2 : Hid (∀ S B P v W, AtS W S B P w.heap.size v c1 → w.heap.size ≤ W.heap.size → Calls Try.prog 12 #[.pointer (some ⟨S, 0, none⟩)] W fun e w' => e = .returned (.tuple #[.int .i64 0, .bool false]) ∧ NowS S B P w.heap.size v c2 W w') := fun S B P v W h hb => by
    have := spawn_any S B P _ 0 v c1 (by have := k1.len8; omega) (by omega) k1.fit W h hb; rw [s2.1, s2.2] at this; exact this
  have T3 : Hid (∀ S B P v W, AtS W S B P w.heap.size v c2 → w.heap.size ≤ W.heap.size → Calls Try.prog 16 #[.pointer (some ⟨S, 0, none⟩), .int .i64 1] W fun e w' => e = .returned (.bool true) ∧ NowS S B P w.heap.size v c3 W w') := fun S B P v W h hb => by
    have := yield_any S B P _ 0 v c2 (by omega) k2 1 (by omega) W h hb; rw [s3] at this; exact this
  have T4 : Hid (∀ S B P v W, AtS W S B P w.heap.size v c3 → Calls Try.prog 25 #[.pointer (some ⟨S, 0, none⟩)] W fun e w' => Owned [2, 1] W e w') := fun S B P v W h => by
    have := run_any S B P _ v c3 (by have := k3.len8; omega) W h; rw [s4] at this; exact this
  have T5 : Hid (∀ S B P v W, AtS W S B P w.heap.size v c3 → Calls Try.prog 18 #[.pointer (some ⟨S, 0, none⟩), .int .i64 2] W fun e w' => e = .returned (.bool true) ∧ NowS S B P w.heap.size v c4 W w') := fun S B P v W h => by
    have := block_any S B P _ v c3 (by have := k3.len8; omega) k3.nd 2 W h; rw [s5] at this; exact this
  have T6 : Hid (∀ S B P v W, AtS W S B P w.heap.size v c4 → Calls Try.prog 14 #[.pointer (some ⟨S, 0, none⟩), .int .i64 2] W fun e w' => e = .returned (.bool true) ∧ NowS S B P w.heap.size v c5 W w') := fun S B P v W h => by
    have := exit_any S B P _ 0 v c4 (by omega) k4 2 (by omega) W h; rw [s6] at this; exact this
  have T7 : Hid (∀ S B P v W, AtS W S B P w.heap.size v c5 → w.heap.size ≤ W.heap.size → Calls Try.prog 12 #[.pointer (some ⟨S, 0, none⟩)] W fun e w' => e = .returned (.tuple #[.int .i64 18, .bool true]) ∧ NowS S B P w.heap.size v c6 W w') := fun S B P v W h hb => by
    have := spawn_any S B P _ 1 v c5 (by have := k5.len8; omega) (by omega) k5.fit W h hb; rw [s7.1, s7.2] at this; exact this
  have T8 : Hid (∀ S B P v W, AtS W S B P w.heap.size v c6 → Calls Try.prog 27 #[.pointer (some ⟨S, 0, none⟩), .int .i64 18] W fun e w' => e = .returned (.int .i64 1) ∧ w' = W) := fun S B P v W h => by
    have := place_sany S B P _ 1 v c6 18 (by omega) (by omega) k6.fit W h; rw [s8] at this; exact this
  go_enter Try.func29, Try.ntmps29
  go_wp2_with fail
  refine N0.out.mono ?_
  rintro e w1 ⟨S, B, P, v, rfl, hl, hA, hb⟩
  have HA := hide hA
  clear hA N0
  go_wp2_with fail
  refine (T0.out _ _ _ _ _ HA.out).mono ?_
  rintro e w2 ⟨rfl, hw2⟩
  subst hw2
  go_wp2_with fail
  refine (T1.out _ _ _ _ _ HA.out hb.size).mono ?_
  rintro e w3 ⟨rfl, hN⟩
  obtain ⟨⟨v1, hA1⟩, hb1⟩ := hN.step HA.out hl hb
  have HA1 := hide hA1
  clear hA1 hN HA hb
  go_wp2_with fail
  refine (T2.out _ _ _ _ _ HA1.out hb1.size).mono ?_
  rintro e w4 ⟨rfl, hN⟩
  obtain ⟨⟨v2, hA2⟩, hb2⟩ := hN.step HA1.out hl hb1
  have HA2 := hide hA2
  clear hA2 hN HA1 hb1
  go_wp2_with fail
  refine (T3.out _ _ _ _ _ HA2.out hb2.size).mono ?_
  rintro e w5 ⟨rfl, hN⟩
  obtain ⟨⟨v3, hA3⟩, hb3⟩ := hN.step HA2.out hl hb2
  have HA3 := hide hA3
  clear hA3 hN HA2 hb2
  go_wp2_with fail
  refine (T4.out _ _ _ _ _ HA3.out).mono ?_
  rintro e w6 ⟨r, rfl, hr, hbr⟩
  have HS6 := hide (HA3.out.beside hr hbr hb3.size)
  have hb6 := below_next hb3 hbr
  obtain ⟨ar, cr, hrv⟩ := owns_slice hr
  subst hrv
  clear hr hbr HA3 hb3
  go_wp2_with fail
  refine (T5.out _ _ _ _ _ HS6.out.s).mono ?_
  rintro e w7 ⟨rfl, hN⟩
  obtain ⟨_, hb7⟩ := hN.step HS6.out.s hl hb6
  obtain ⟨v7, hS7⟩ := HS6.out.now hN
  have HS7 := hide hS7
  clear hS7 hN HS6 hb6
  go_wp2_with fail
  refine (T6.out _ _ _ _ _ HS7.out.s).mono ?_
  rintro e w8 ⟨rfl, hN⟩
  obtain ⟨_, hb8⟩ := hN.step HS7.out.s hl hb7
  obtain ⟨v8, hS8⟩ := HS7.out.now hN
  have HS8 := hide hS8
  clear hS8 hN HS7 hb7
  go_wp2_with fail
  refine (T7.out _ _ _ _ _ HS8.out.s hb8.size).mono ?_
  rintro e w9 ⟨rfl, hN⟩
  obtain ⟨_, hb9⟩ := hN.step HS8.out.s hl hb8
  obtain ⟨v9, hS9⟩ := HS8.out.now hN
  have HS9 := hide hS9
  clear hS9 hN HS8 hb8
  go_wp2_with fail
  have hW : Below w9.heap.size w9 (w9.alloc (.cells #[.int .i64 2, .int .i64 1] 3)) := (Below.refl _ _).alloc (Nat.le_refl _) _
  have HL := hide (World.ownsRow_lit (base := w9.heap.size) (e := 3) (size := 1) w9 #[.int .i64 2, .int .i64 1] 2 (Nat.le_refl _) (by unfold maxLen; omega) rfl)
  have HS10 := hide (HS9.out.below hW)
  have hb10 := below_next hb9 hW
  clear hW HS9 hb9
  refine (same_rows _ _ _ _ _ _ [2, 1] _ (by simp) HS10.out.ro HL.out).mono ?_
  rintro e w11 ⟨rfl, hb11⟩
  have HS11 := hide (HS10.out.below hb11)
  have hb12 := below_next hb10 hb11
  clear HS10 hb10 hb11 HL
  go_wp2_with fail
  refine (T8.out _ _ _ _ _ HS11.out.s).mono ?_
  rintro e w12 ⟨rfl, hw12⟩
  subst hw12
  go_wp2
  go_ret
  refine ⟨rfl, ?_⟩
  exact hb12

end Go.Proofs.Ytngaecfainhjcaa
