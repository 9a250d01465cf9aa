/-
  What the law MutexPlays asks comes out true at any list of acts.
-/
import Derived.Test.YtbagkmijnjjmgaaBoth
import Derived.Test.YtbagkmijnjjmgaaUp
import Derived.Test.YtbagkmijnjjmgaaMem
import Derived.Deep.DeepCutAuto
namespace Go.Proofs.Ytbagkmijnjjmgaa
open Go.RowKit

theorem six {m : Nat} (h : m < 6) : m = 0 ∨ m = 1 ∨ m = 2 ∨ m = 3 ∨ m = 4 ∨ m = 5 := by omega
set_option maxRecDepth 20000 in
set_option maxHeartbeats 8000000 in
theorem plays_walk (a1 : Option Addr) (l1 c1 : Nat) (h1 : l1 ≤ c1) (g1 : c1 ≤ maxLen) (w : World) (hact1 : Acts w a1 l1) : Calls Try.prog 3 #[.slice a1 l1 c1] w fun e w' => e = .returned (.bool true) ∧ Below w.heap.size w w' := by
  have hl1 : l1 ≤ maxLen := Nat.le_trans h1 g1
  unfold maxLen at hl1
  clear h1 g1
  have HA1 := hide hact1
  clear hact1
  have N0 := hide (new_any w)
  go_enter Try.func3, Try.ntmps3
  go_wp2_with fail
  refine N0.out.mono ?_
  rintro e w1 ⟨rfl, hA, hb⟩
  obtain ⟨M, hMe⟩ : ∃ M, M = w.heap.size := ⟨_, rfl⟩
  rw [← hMe] at hA ⊢
  have HB0 := hide (Bth.start (W0 := w) (by rw [← hMe]; rw [hMe] at hA ⊢; exact hA) hb (by omega : w.heap.size ≤ M))
  obtain ⟨R, hRe⟩ : ∃ R, R = w1.heap.size := ⟨_, rfl⟩
  rw [← hRe] at HB0
  clear hA hMe N0
  go_wp2_with fail
  rw [← hRe]
  clear hRe hb
  go_loopw [5] (fun i wr => ∃ k l, i = .int .i64 ((k : Nat) : Int) ∧ k ≤ 60 ∧ k ≤ l1 ∧ Hid (Okz l) ∧ List.length l ≤ k ∧ Hid (Bth w M R l l wr)) (fun i _ => 60 - (intOf i).toNat)
  case atStart => exact ⟨0, [], rfl, by omega, by omega, Okz.nil, by simp, HB0⟩
  case round =>
    clear HB0
    obtain ⟨k, l, rfl, hk60, hkl, HO, hlen, HB⟩ := hrel
    by_cases q1 : k < l1
    · have q1' : (k : Int) < (l1 : Int) := by omega
      by_cases q2 : k < 60
      · have q2' : (k : Int) < 60 := by omega
        have q0' : (0 : Int) ≤ (k : Int) := by omega
        obtain ⟨b2, off2, d, t, rfl, hlt2, p0, p1, hd, _⟩ := HA1.out k q1
        have p0' := ((bcell HB.out.2.2).1 _ _ hlt2).trans p0
        have p1' := ((bcell HB.out.2.2).1 _ _ hlt2).trans p1
        clear p0 p1
        have hlen9 : l.length ≤ 1000 := by omega
        have hk1 : k + 1 ≤ 60 ∧ k + 1 ≤ l1 := by omega
        obtain ⟨m, hm0, hm6, _, _⟩ := u8_mod hd 6 (by omega) (by omega)
        have hm := hide hm0
        have h6 := six hm6
        clear hm0 hm6 hd
        rcases h6 with rfl | rfl | rfl | rfl | rfl | rfl
        · have HOn : Hid (Okz (dropL l t)) := hide (HO.out.drop t)
          have hlenN := drop_len l t
          have C1 := hide (b_drop (W0 := w) (M := M) (R := R) (l2 := l) (w := wr) HO.out hlen9 t HB.out)
          have C2 : Hid (∀ W, Bth w M R (dropL l t) l W → Calls Try.prog 10 #[.pointer (some ⟨R, 0, none⟩), .int .i64 t] W fun e w' => e = .returned (.bool (dropB l t)) ∧ Bth w M R (dropL l t) (dropL l t) w') := hide fun W hW => r_drop HO.out hlen9 t hW
          have CL : Hid (List.length (dropL l t) ≤ k + 1) := hide (by omega)
          have hm' : d.tmod 6 = 0 := hm.out
          clear hm hlenN HB HO hlen9
          generalize dropL l t = L at *
          generalize dropB l t = E0 at *
          have tt0 : (E0 == E0) = true := by simp
          go_wp2_with fail
          clear hm'
          refine C1.out.mono ?_
          rintro e w3 ⟨rfl, hB⟩
          have HB3 := hide hB
          clear hB C1 p0' p1'
          go_wp2_with fail
          refine (C2.out _ HB3.out).mono ?_
          rintro e w4 ⟨rfl, hB⟩
          have HB4 := hide hB
          clear hB C2 HB3
          go_wp2_with fail
          refine (b_holder HB4.out).mono ?_
          rintro e w5 ⟨rfl, hw5⟩
          subst hw5
          go_wp2_with fail
          refine (r_holder HB4.out).mono ?_
          rintro e w6 ⟨rfl, hw6⟩
          subst hw6
          have hh : (hold L != hold L) = false := by simp
          go_wp2_with fail
          obtain ⟨T, n, hT⟩ := Tl.mk' (L := L) (Nat.le_trans CL.out (by omega))
          have HT := hide hT
          clear hT
          refine (b_waitsT HT.out HB4.out).mono ?_
          rintro e w7 ⟨a7, c7, rfl, hz7, hB⟩
          have HB7 := hide hB
          have HZ7 := hide hz7
          clear hB hz7 HB4
          go_wp2_with fail
          refine (r_waitsT HT.out HB7.out).mono ?_
          rintro e w8 ⟨⟨a8, c8, rfl, hz8⟩, hw8⟩
          subst hw8
          have HI := hide (same_intsT HT.out _ _ c7 c8 HZ7.out hz8)
          clear hz8 HZ7
          go_wp2_with fail
          refine HI.out.mono ?_
          rintro e w9 ⟨rfl, hb9⟩
          have HB9 := hide (HB7.out.below hb9)
          clear hb9 HI HB7
          go_wp2_with fail
          go_roundw
          case rel => exact ⟨k + 1, L, by go_num, hk1.1, hk1.2, HOn, CL.out, HB9⟩
          case measure => simp [intOf]; omega
        · have HOn : Hid (Okz (tryL l t)) := hide (HO.out.tr t)
          have hlenN := tr_len l t
          have C1 := hide (b_try (W0 := w) (M := M) (R := R) (l2 := l) (w := wr) HO.out hlen9 t HB.out)
          have C2 : Hid (∀ W, Bth w M R (tryL l t) l W → Calls Try.prog 12 #[.pointer (some ⟨R, 0, none⟩), .int .i64 t, .bool false] W fun e w' => e = .returned (.int .i64 (tryE l t)) ∧ Bth w M R (tryL l t) (tryL l t) w') := hide fun W hW => r_want hlen9 t false hW
          have CL : Hid (List.length (tryL l t) ≤ k + 1) := hide (by omega)
          have hm' : d.tmod 6 = 1 := hm.out
          clear hm hlenN HB HO hlen9
          generalize tryL l t = L at *
          generalize tryE l t = E0 at *
          have tt0 : (E0 == E0) = true := by simp
          go_wp2_with fail
          clear hm'
          refine C1.out.mono ?_
          rintro e w3 ⟨rfl, hB⟩
          have HB3 := hide hB
          clear hB C1 p0' p1'
          go_wp2_with fail
          refine (C2.out _ HB3.out).mono ?_
          rintro e w4 ⟨rfl, hB⟩
          have HB4 := hide hB
          clear hB C2 HB3
          go_wp2_with fail
          refine (b_holder HB4.out).mono ?_
          rintro e w5 ⟨rfl, hw5⟩
          subst hw5
          go_wp2_with fail
          refine (r_holder HB4.out).mono ?_
          rintro e w6 ⟨rfl, hw6⟩
          subst hw6
          have hh : (hold L != hold L) = false := by simp
          go_wp2_with fail
          obtain ⟨T, n, hT⟩ := Tl.mk' (L := L) (Nat.le_trans CL.out (by omega))
          have HT := hide hT
          clear hT
          refine (b_waitsT HT.out HB4.out).mono ?_
          rintro e w7 ⟨a7, c7, rfl, hz7, hB⟩
          have HB7 := hide hB
          have HZ7 := hide hz7
          clear hB hz7 HB4
          go_wp2_with fail
          refine (r_waitsT HT.out HB7.out).mono ?_
          rintro e w8 ⟨⟨a8, c8, rfl, hz8⟩, hw8⟩
          subst hw8
          have HI := hide (same_intsT HT.out _ _ c7 c8 HZ7.out hz8)
          clear hz8 HZ7
          go_wp2_with fail
          refine HI.out.mono ?_
          rintro e w9 ⟨rfl, hb9⟩
          have HB9 := hide (HB7.out.below hb9)
          clear hb9 HI HB7
          go_wp2_with fail
          go_roundw
          case rel => exact ⟨k + 1, L, by go_num, hk1.1, hk1.2, HOn, CL.out, HB9⟩
          case measure => simp [intOf]; omega
        · have HOn : Hid (Okz (unL l t)) := hide (HO.out.un t)
          have hlenN := un_len l t
          have C1 := hide (b_un (W0 := w) (M := M) (R := R) (l2 := l) (w := wr) HO.out hlen9 t HB.out)
          have C2 : Hid (∀ W, Bth w M R (unL l t) l W → Calls Try.prog 14 #[.pointer (some ⟨R, 0, none⟩), .int .i64 t] W fun e w' => e = .returned (.tuple #[.int .i64 (unN l t), .int .i64 (unE l t)]) ∧ Bth w M R (unL l t) (unL l t) w') := hide fun W hW => r_un hlen9 t hW
          have CL : Hid (List.length (unL l t) ≤ k + 1) := hide (by omega)
          have hm' : d.tmod 6 = 2 := hm.out
          clear hm hlenN HB HO hlen9
          generalize unL l t = L at *
          generalize unN l t = E0 at *
          generalize unE l t = E1 at *
          have tt0 : (E0 == E0) = true := by simp
          have tt1 : (E1 == E1) = true := by simp
          go_wp2_with fail
          clear hm'
          refine C1.out.mono ?_
          rintro e w3 ⟨rfl, hB⟩
          have HB3 := hide hB
          clear hB C1 p0' p1'
          go_wp2_with fail
          refine (C2.out _ HB3.out).mono ?_
          rintro e w4 ⟨rfl, hB⟩
          have HB4 := hide hB
          clear hB C2 HB3
          go_wp2_with fail
          refine (b_holder HB4.out).mono ?_
          rintro e w5 ⟨rfl, hw5⟩
          subst hw5
          go_wp2_with fail
          refine (r_holder HB4.out).mono ?_
          rintro e w6 ⟨rfl, hw6⟩
          subst hw6
          have hh : (hold L != hold L) = false := by simp
          go_wp2_with fail
          obtain ⟨T, n, hT⟩ := Tl.mk' (L := L) (Nat.le_trans CL.out (by omega))
          have HT := hide hT
          clear hT
          refine (b_waitsT HT.out HB4.out).mono ?_
          rintro e w7 ⟨a7, c7, rfl, hz7, hB⟩
          have HB7 := hide hB
          have HZ7 := hide hz7
          clear hB hz7 HB4
          go_wp2_with fail
          refine (r_waitsT HT.out HB7.out).mono ?_
          rintro e w8 ⟨⟨a8, c8, rfl, hz8⟩, hw8⟩
          subst hw8
          have HI := hide (same_intsT HT.out _ _ c7 c8 HZ7.out hz8)
          clear hz8 HZ7
          go_wp2_with fail
          refine HI.out.mono ?_
          rintro e w9 ⟨rfl, hb9⟩
          have HB9 := hide (HB7.out.below hb9)
          clear hb9 HI HB7
          go_wp2_with fail
          go_roundw
          case rel => exact ⟨k + 1, L, by go_num, hk1.1, hk1.2, HOn, CL.out, HB9⟩
          case measure => simp [intOf]; omega
        · have HOn : Hid (Okz (unL l t)) := hide (HO.out.un t)
          have hlenN := un_len l t
          have C1 := hide (b_un (W0 := w) (M := M) (R := R) (l2 := l) (w := wr) HO.out hlen9 t HB.out)
          have C2 : Hid (∀ W, Bth w M R (unL l t) l W → Calls Try.prog 14 #[.pointer (some ⟨R, 0, none⟩), .int .i64 t] W fun e w' => e = .returned (.tuple #[.int .i64 (unN l t), .int .i64 (unE l t)]) ∧ Bth w M R (unL l t) (unL l t) w') := hide fun W hW => r_un hlen9 t hW
          have CL : Hid (List.length (unL l t) ≤ k + 1) := hide (by omega)
          have hm' : d.tmod 6 = 3 := hm.out
          clear hm hlenN HB HO hlen9
          generalize unL l t = L at *
          generalize unN l t = E0 at *
          generalize unE l t = E1 at *
          have tt0 : (E0 == E0) = true := by simp
          have tt1 : (E1 == E1) = true := by simp
          go_wp2_with fail
          clear hm'
          refine C1.out.mono ?_
          rintro e w3 ⟨rfl, hB⟩
          have HB3 := hide hB
          clear hB C1 p0' p1'
          go_wp2_with fail
          refine (C2.out _ HB3.out).mono ?_
          rintro e w4 ⟨rfl, hB⟩
          have HB4 := hide hB
          clear hB C2 HB3
          go_wp2_with fail
          refine (b_holder HB4.out).mono ?_
          rintro e w5 ⟨rfl, hw5⟩
          subst hw5
          go_wp2_with fail
          refine (r_holder HB4.out).mono ?_
          rintro e w6 ⟨rfl, hw6⟩
          subst hw6
          have hh : (hold L != hold L) = false := by simp
          go_wp2_with fail
          obtain ⟨T, n, hT⟩ := Tl.mk' (L := L) (Nat.le_trans CL.out (by omega))
          have HT := hide hT
          clear hT
          refine (b_waitsT HT.out HB4.out).mono ?_
          rintro e w7 ⟨a7, c7, rfl, hz7, hB⟩
          have HB7 := hide hB
          have HZ7 := hide hz7
          clear hB hz7 HB4
          go_wp2_with fail
          refine (r_waitsT HT.out HB7.out).mono ?_
          rintro e w8 ⟨⟨a8, c8, rfl, hz8⟩, hw8⟩
          subst hw8
          have HI := hide (same_intsT HT.out _ _ c7 c8 HZ7.out hz8)
          clear hz8 HZ7
          go_wp2_with fail
          refine HI.out.mono ?_
          rintro e w9 ⟨rfl, hb9⟩
          have HB9 := hide (HB7.out.below hb9)
          clear hb9 HI HB7
          go_wp2_with fail
          go_roundw
          case rel => exact ⟨k + 1, L, by go_num, hk1.1, hk1.2, HOn, CL.out, HB9⟩
          case measure => simp [intOf]; omega
        · have HOn : Hid (Okz (lockL l t)) := hide (HO.out.lock t)
          have hlenN := lock_len l t
          have C1 := hide (b_lock (W0 := w) (M := M) (R := R) (l2 := l) (w := wr) HO.out hlen9 t HB.out)
          have C2 : Hid (∀ W, Bth w M R (lockL l t) l W → Calls Try.prog 12 #[.pointer (some ⟨R, 0, none⟩), .int .i64 t, .bool true] W fun e w' => e = .returned (.int .i64 (lockE l t)) ∧ Bth w M R (lockL l t) (lockL l t) w') := hide fun W hW => r_want hlen9 t true hW
          have CL : Hid (List.length (lockL l t) ≤ k + 1) := hide (by omega)
          have hm' : d.tmod 6 = 4 := hm.out
          clear hm hlenN HB HO hlen9
          generalize lockL l t = L at *
          generalize lockE l t = E0 at *
          have tt0 : (E0 == E0) = true := by simp
          go_wp2_with fail
          clear hm'
          refine C1.out.mono ?_
          rintro e w3 ⟨rfl, hB⟩
          have HB3 := hide hB
          clear hB C1 p0' p1'
          go_wp2_with fail
          refine (C2.out _ HB3.out).mono ?_
          rintro e w4 ⟨rfl, hB⟩
          have HB4 := hide hB
          clear hB C2 HB3
          go_wp2_with fail
          refine (b_holder HB4.out).mono ?_
          rintro e w5 ⟨rfl, hw5⟩
          subst hw5
          go_wp2_with fail
          refine (r_holder HB4.out).mono ?_
          rintro e w6 ⟨rfl, hw6⟩
          subst hw6
          have hh : (hold L != hold L) = false := by simp
          go_wp2_with fail
          obtain ⟨T, n, hT⟩ := Tl.mk' (L := L) (Nat.le_trans CL.out (by omega))
          have HT := hide hT
          clear hT
          refine (b_waitsT HT.out HB4.out).mono ?_
          rintro e w7 ⟨a7, c7, rfl, hz7, hB⟩
          have HB7 := hide hB
          have HZ7 := hide hz7
          clear hB hz7 HB4
          go_wp2_with fail
          refine (r_waitsT HT.out HB7.out).mono ?_
          rintro e w8 ⟨⟨a8, c8, rfl, hz8⟩, hw8⟩
          subst hw8
          have HI := hide (same_intsT HT.out _ _ c7 c8 HZ7.out hz8)
          clear hz8 HZ7
          go_wp2_with fail
          refine HI.out.mono ?_
          rintro e w9 ⟨rfl, hb9⟩
          have HB9 := hide (HB7.out.below hb9)
          clear hb9 HI HB7
          go_wp2_with fail
          go_roundw
          case rel => exact ⟨k + 1, L, by go_num, hk1.1, hk1.2, HOn, CL.out, HB9⟩
          case measure => simp [intOf]; omega
        · have HOn : Hid (Okz (lockL l t)) := hide (HO.out.lock t)
          have hlenN := lock_len l t
          have C1 := hide (b_lock (W0 := w) (M := M) (R := R) (l2 := l) (w := wr) HO.out hlen9 t HB.out)
          have C2 : Hid (∀ W, Bth w M R (lockL l t) l W → Calls Try.prog 12 #[.pointer (some ⟨R, 0, none⟩), .int .i64 t, .bool true] W fun e w' => e = .returned (.int .i64 (lockE l t)) ∧ Bth w M R (lockL l t) (lockL l t) w') := hide fun W hW => r_want hlen9 t true hW
          have CL : Hid (List.length (lockL l t) ≤ k + 1) := hide (by omega)
          have hm' : d.tmod 6 = 5 := hm.out
          clear hm hlenN HB HO hlen9
          generalize lockL l t = L at *
          generalize lockE l t = E0 at *
          have tt0 : (E0 == E0) = true := by simp
          go_wp2_with fail
          clear hm'
          refine C1.out.mono ?_
          rintro e w3 ⟨rfl, hB⟩
          have HB3 := hide hB
          clear hB C1 p0' p1'
          go_wp2_with fail
          refine (C2.out _ HB3.out).mono ?_
          rintro e w4 ⟨rfl, hB⟩
          have HB4 := hide hB
          clear hB C2 HB3
          go_wp2_with fail
          refine (b_holder HB4.out).mono ?_
          rintro e w5 ⟨rfl, hw5⟩
          subst hw5
          go_wp2_with fail
          refine (r_holder HB4.out).mono ?_
          rintro e w6 ⟨rfl, hw6⟩
          subst hw6
          have hh : (hold L != hold L) = false := by simp
          go_wp2_with fail
          obtain ⟨T, n, hT⟩ := Tl.mk' (L := L) (Nat.le_trans CL.out (by omega))
          have HT := hide hT
          clear hT
          refine (b_waitsT HT.out HB4.out).mono ?_
          rintro e w7 ⟨a7, c7, rfl, hz7, hB⟩
          have HB7 := hide hB
          have HZ7 := hide hz7
          clear hB hz7 HB4
          go_wp2_with fail
          refine (r_waitsT HT.out HB7.out).mono ?_
          rintro e w8 ⟨⟨a8, c8, rfl, hz8⟩, hw8⟩
          subst hw8
          have HI := hide (same_intsT HT.out _ _ c7 c8 HZ7.out hz8)
          clear hz8 HZ7
          go_wp2_with fail
          refine HI.out.mono ?_
          rintro e w9 ⟨rfl, hb9⟩
          have HB9 := hide (HB7.out.below hb9)
          clear hb9 HI HB7
          go_wp2_with fail
          go_roundw
          case rel => exact ⟨k + 1, L, by go_num, hk1.1, hk1.2, HOn, CL.out, HB9⟩
          case measure => simp [intOf]; omega
      · have q2' : ¬ (k : Int) < 60 := by omega
        go_wp2_with fail
        refine (awake_any _).mono ?_
        rintro e w3 ⟨rfl, hb3⟩
        have hb4 := (HB.out.below hb3).2.2
        clear HB hb3
        go_wp2
        go_ret
        exact ⟨rfl, hb4⟩
    · have q1' : ¬ (k : Int) < (l1 : Int) := by omega
      go_wp2_with fail
      refine (awake_any _).mono ?_
      rintro e w3 ⟨rfl, hb3⟩
      have hb4 := (HB.out.below hb3).2.2
      clear HB hb3
      go_wp2
      go_ret
      exact ⟨rfl, hb4⟩

end Go.Proofs.Ytbagkmijnjjmgaa
