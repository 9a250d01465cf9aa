/-
  What the law OncePlays asks comes out true at any list of acts.
-/
import Derived.Test.YtinipmandmhgnaaBoth
import Derived.Test.YtinipmandmhgnaaAwake
import Derived.Test.YtinipmandmhgnaaUp
import Derived.Test.YtinipmandmhgnaaMem
import Derived.Deep.DeepCutAuto
import Derived.Deep.CutBlock
namespace Go.Proofs.Ytinipmandmhgnaa
open Go.RowKit

theorem eight {m : Nat} (h : m < 8) : m = 0 ∨ m = 1 ∨ m = 2 ∨ m = 3 ∨ m = 4 ∨ m = 5 ∨ m = 6 ∨ m = 7 := by omega
theorem Bth.drew {W0 w : World} {M R : Nat} {F : Nat → Prop} {l q : List Int} {o p : Bool} (h : Bth W0 M R F l o q p w) : Bth W0 M R F l o q p w.drew := h.below (Below.refl _ _).drew
/-- Both, behind an act. -/
def After (w : World) (M R k : Nat) (v : Value) (wx : World) : Prop := v = .bool true ∧ ∃ l o, Hid (Okz l) ∧ Hid (l.length ≤ k + 1) ∧ Hid (Bth w M R none0 l o l o wx)

set_option maxRecDepth 20000 in
set_option maxHeartbeats 8000000 in
set_option linter.unusedSimpArgs false in
theorem plays_walk (a1 : Option Addr) (l1 c1 : Nat) (h1 : l1 ≤ c1) (g1 : c1 ≤ maxLen) (w : World) (hact1 : Acts w a1 l1) : Calls Try.prog 3 #[.slice a1 l1 c1] w fun e w' => e = .returned (.bool true) ∧ Below w.heap.size w w' := by
  have hl1 : l1 ≤ maxLen := Nat.le_trans h1 g1
  unfold maxLen at hl1
  clear h1 g1
  have HA1 := hide hact1
  clear hact1
  have N0 := hide (x_new (w := w))
  go_enter Try.func3, Try.ntmps3
  go_wp2_with fail
  refine N0.out.mono ?_
  rintro e w1 ⟨rfl, hA⟩
  have HB0 := hide (Bth.start hA)
  obtain ⟨M, hMe⟩ : ∃ M, M = w.heap.size := ⟨_, rfl⟩
  obtain ⟨R, hRe⟩ : ∃ R, R = w1.heap.size := ⟨_, rfl⟩
  rw [← hMe, ← hRe] at HB0
  rw [← hMe]
  clear hA hMe N0
  go_wp2_with fail
  rw [← hRe]
  clear hRe
  go_loopw [5] (fun i wr => ∃ k l o, i = .int .i64 ((k : Nat) : Int) ∧ k ≤ 40 ∧ k ≤ l1 ∧ Hid (Okz l) ∧ List.length l ≤ k ∧ Hid (Bth w M R none0 l o l o wr)) (fun i _ => 40 - (intOf i).toNat)
  case atStart => exact ⟨0, [], false, rfl, by omega, by omega, Okz.nil, by simp, HB0⟩
  case round =>
    clear HB0
    obtain ⟨k, l, o, rfl, hk40, hkl, HO, hlen, HB⟩ := hrel
    by_cases q1 : k < l1
    · have q1' : (k : Int) < (l1 : Int) := by omega
      by_cases q2 : k < 40
      · have q2' : (k : Int) < 40 := by omega
        have q0' : (0 : Int) ≤ (k : Int) := by omega
        obtain ⟨b2, off2, d, t, rfl, hlt2, p0, p1, hd, _⟩ := HA1.out k q1
        have p0' := ((bcell HB.out.2.2).1 _ _ hlt2).trans p0
        have p1' := ((bcell HB.out.2.2).1 _ _ hlt2).trans p1
        have hl9 : l.length ≤ 1000 := by omega
        obtain ⟨m, hm0, hm8, _, _⟩ := u8_mod hd 8 (by omega) (by omega)
        have HM8 : Hid (d.tmod 8 = (m : Int) ∧ m < 8) := ⟨hm0, hm8⟩
        have HKL := hide (show k + 1 ≤ 40 ∧ k + 1 ≤ l1 from by omega)
        have HLN := hide hlen
        clear p0 p1 hm0 hm8 hd
        go_upto_block 2 with fail
        clear p0' p1' q0' q1' q2' hlt2
        go_cut [7, 8, 9, 10, 11, 12, 13, 14, 15, 39] (fun v7 _ _ _ _ _ _ _ _ _ wx => After w M R k v7 wx)
        case first =>
          clear hkl hk40 hl1 q1 q2 HKL HA1 hlen
          obtain ⟨hm, hm8⟩ := HM8.out
          clear HM8
          rcases eight hm8 with rfl | rfl | rfl | rfl | rfl | rfl | rfl | rfl
          · have hm' : d.tmod 8 = 0 := hm
            clear hm hm8
            have HO2 := hide (HO.out.drop t)
            have HL2 : Hid ((dropL l t).length ≤ k + 1) := hide (Nat.le_trans (drop_len l t) (Nat.le_succ_of_le HLN.out))
            have C1 := hide (b_drop (W0 := w) (M := M) (R := R) (F := none0) (q := l) (o := o) (p := o) (w := wr) HO.out hl9 t HB.out)
            have C2 : Hid (∀ W, Bth w M R none0 (dropL l t) o l o W → Calls Try.prog 9 #[.pointer (some ⟨R, 0, none⟩), .int .i64 t] W fun e w' => e = .returned (.bool (dropB l t)) ∧ Bth w M R none0 (dropL l t) o (dropL l t) o w' ∧ Kept none0 W w') := hide fun W hW => r_drop HO.out hl9 t hW
            clear HLN HB HO
            generalize dropL l t = L2 at *
            generalize dropB l t = E0 at *
            have tt0 : (E0 == E0) = true := by simp
            go_wp2_with fail
            clear hm'
            refine C1.out.mono ?_
            rintro e w3 ⟨rfl, hB, _⟩
            have HB3 := hide hB
            clear hB C1
            go_wp2_with fail
            refine (C2.out _ HB3.out).mono ?_
            rintro e w4 ⟨rfl, hB, _⟩
            have HB4 := hide hB
            clear hB C2 HB3
            go_wp2_with fail
            go_meet
            exact ⟨by simp, _, _, HO2, HL2, HB4⟩
          · have hm' : d.tmod 8 = 1 := hm
            clear hm hm8
            have HO2 := hide (HO.out.drop t)
            have HL2 : Hid ((dropL l t).length ≤ k + 1) := hide (Nat.le_trans (drop_len l t) (Nat.le_succ_of_le HLN.out))
            have C1 := hide (b_drop (W0 := w) (M := M) (R := R) (F := none0) (q := l) (o := o) (p := o) (w := wr) HO.out hl9 t HB.out)
            have C2 : Hid (∀ W, Bth w M R none0 (dropL l t) o l o W → Calls Try.prog 9 #[.pointer (some ⟨R, 0, none⟩), .int .i64 t] W fun e w' => e = .returned (.bool (dropB l t)) ∧ Bth w M R none0 (dropL l t) o (dropL l t) o w' ∧ Kept none0 W w') := hide fun W hW => r_drop HO.out hl9 t hW
            clear HLN HB HO
            generalize dropL l t = L2 at *
            generalize dropB l t = E0 at *
            have tt0 : (E0 == E0) = true := by simp
            go_wp2_with fail
            clear hm'
            refine C1.out.mono ?_
            rintro e w3 ⟨rfl, hB, _⟩
            have HB3 := hide hB
            clear hB C1
            go_wp2_with fail
            refine (C2.out _ HB3.out).mono ?_
            rintro e w4 ⟨rfl, hB, _⟩
            have HB4 := hide hB
            clear hB C2 HB3
            go_wp2_with fail
            go_meet
            exact ⟨by simp, _, _, HO2, HL2, HB4⟩
          · have hm' : d.tmod 8 = 2 := hm
            clear hm hm8
            have HO2 := hide (HO.out.dn t)
            have HL2 : Hid ((dnL l t).length ≤ k + 1) := hide (Nat.le_trans (dn_len l t) (Nat.le_succ_of_le HLN.out))
            have hW9 : (dnW l t).length ≤ 1000 := Nat.le_trans (dnW_len l t) hl9
            have D1 := b_dn (W0 := w) (M := M) (R := R) (F := none0) (q := l) (o := o) (p := o) (w := wr) t HB.out
            have D2 : ∀ F W, Bth w M R F (dnL l t) (dnO l o t) l o W → Calls Try.prog 11 #[.pointer (some ⟨R, 0, none⟩), .int .i64 t] W fun e w' => (∃ a c, e = .returned (.tuple #[.slice a (dnW l t).length c, .int .i64 (dnE l t)]) ∧ RowZ w' a (dnW l t)) ∧ Bth w M R F (dnL l t) (dnO l o t) (dnL l t) (dnO l o t) w' ∧ Kept F W w' := fun F W hW => r_dn hl9 t hW
            generalize dnW l t = T at *
            obtain ⟨n, hn⟩ : ∃ n, T.length = n := ⟨_, rfl⟩
            have I1 : ∀ a1 a2 c1 c2 W, RowZ W a1 T → RowZ W a2 T → Calls Try.prog 12 #[.slice a1 T.length c1, .slice a2 T.length c2] W fun e w' => e = .returned (.bool true) ∧ Below W.heap.size W w' := fun a1 a2 c1 c2 W k1 k2 => same_ints a1 a2 c1 c2 T W hW9 k1 k2
            rw [hn] at D1 I1
            simp only [hn] at D2
            have C1 := hide D1
            have C2 := hide D2
            have HI := hide I1
            clear HLN HB HO D1 D2 I1 hn hW9 hl9
            generalize dnL l t = L2 at *
            generalize dnO l o t = O2 at *
            generalize dnE l t = E0 at *
            have tt1 : (E0 == E0) = true := by simp
            go_wp2_with fail
            clear hm'
            refine C1.out.mono ?_
            rintro e w3 ⟨a3, c3, rfl, hr, hB, _⟩
            have HB3 := hide hB
            have HR3 := hide hr
            clear hB hr C1
            go_wp2_with fail
            refine (C2.out _ _ HB3.out).mono ?_
            rintro e w4 ⟨⟨a4, c4, rfl, hz⟩, hB, hk⟩
            have HB4 := hide hB
            have HZ4 := hide hz
            have HR4 := hide (HR3.out.kept hk).row
            clear hB hz hk C2 HB3 HR3
            go_wp2_with fail
            refine (HI.out _ _ _ _ _ HR4.out HZ4.out).mono ?_
            rintro e w5 ⟨rfl, hb⟩
            have HB5 := hide ((HB4.out.below hb).mono fun _ h => Or.inl h)
            clear hb HI HR4 HZ4 HB4
            go_wp2_with fail
            go_meet
            exact ⟨by simp, _, _, HO2, HL2, HB5⟩
          · have hm' : d.tmod 8 = 3 := hm
            clear hm hm8
            have HO2 := hide (HO.out.beg o t)
            have HL2 : Hid ((begL l o t).length ≤ k + 1) := hide (Nat.le_trans (beg_len l o t) (Nat.succ_le_succ HLN.out))
            have C1 := hide (b_beg (W0 := w) (M := M) (R := R) (F := none0) (q := l) (o := o) (p := o) (w := wr) HO.out hl9 t HB.out)
            have C2 : Hid (∀ W, Bth w M R none0 (begL l o t) o l o W → Calls Try.prog 14 #[.pointer (some ⟨R, 0, none⟩), .int .i64 t] W fun e w' => e = .returned (.tuple #[.bool (begB l o t), .int .i64 (begE l o t)]) ∧ Bth w M R none0 (begL l o t) o (begL l o t) o w' ∧ Kept none0 W w') := hide fun W hW => r_beg hl9 t hW
            clear HLN HB HO
            generalize begL l o t = L2 at *
            generalize begB l o t = B0 at *
            generalize begE l o t = E0 at *
            have tt0 : (B0 == B0) = true := by simp
            have tt1 : (E0 == E0) = true := by simp
            go_wp2_with fail
            clear hm'
            refine C1.out.mono ?_
            rintro e w3 ⟨rfl, hB, _⟩
            have HB3 := hide hB
            clear hB C1
            go_wp2_with fail
            refine (C2.out _ HB3.out).mono ?_
            rintro e w4 ⟨rfl, hB, _⟩
            have HB4 := hide hB
            clear hB C2 HB3
            go_wp2_with fail
            go_meet
            exact ⟨by simp, _, _, HO2, HL2, HB4⟩
          · have hm' : d.tmod 8 = 4 := hm
            clear hm hm8
            have HO2 := hide (HO.out.beg o t)
            have HL2 : Hid ((begL l o t).length ≤ k + 1) := hide (Nat.le_trans (beg_len l o t) (Nat.succ_le_succ HLN.out))
            have C1 := hide (b_beg (W0 := w) (M := M) (R := R) (F := none0) (q := l) (o := o) (p := o) (w := wr) HO.out hl9 t HB.out)
            have C2 : Hid (∀ W, Bth w M R none0 (begL l o t) o l o W → Calls Try.prog 14 #[.pointer (some ⟨R, 0, none⟩), .int .i64 t] W fun e w' => e = .returned (.tuple #[.bool (begB l o t), .int .i64 (begE l o t)]) ∧ Bth w M R none0 (begL l o t) o (begL l o t) o w' ∧ Kept none0 W w') := hide fun W hW => r_beg hl9 t hW
            clear HLN HB HO
            generalize begL l o t = L2 at *
            generalize begB l o t = B0 at *
            generalize begE l o t = E0 at *
            have tt0 : (B0 == B0) = true := by simp
            have tt1 : (E0 == E0) = true := by simp
            go_wp2_with fail
            clear hm'
            refine C1.out.mono ?_
            rintro e w3 ⟨rfl, hB, _⟩
            have HB3 := hide hB
            clear hB C1
            go_wp2_with fail
            refine (C2.out _ HB3.out).mono ?_
            rintro e w4 ⟨rfl, hB, _⟩
            have HB4 := hide hB
            clear hB C2 HB3
            go_wp2_with fail
            go_meet
            exact ⟨by simp, _, _, HO2, HL2, HB4⟩
          · have hm' : d.tmod 8 = 5 := hm
            clear hm hm8
            have HO2 := hide (HO.out.beg o t)
            have HL2 : Hid ((begL l o t).length ≤ k + 1) := hide (Nat.le_trans (beg_len l o t) (Nat.succ_le_succ HLN.out))
            have C1 := hide (b_beg (W0 := w) (M := M) (R := R) (F := none0) (q := l) (o := o) (p := o) (w := wr) HO.out hl9 t HB.out)
            have C2 : Hid (∀ W, Bth w M R none0 (begL l o t) o l o W → Calls Try.prog 14 #[.pointer (some ⟨R, 0, none⟩), .int .i64 t] W fun e w' => e = .returned (.tuple #[.bool (begB l o t), .int .i64 (begE l o t)]) ∧ Bth w M R none0 (begL l o t) o (begL l o t) o w' ∧ Kept none0 W w') := hide fun W hW => r_beg hl9 t hW
            clear HLN HB HO
            generalize begL l o t = L2 at *
            generalize begB l o t = B0 at *
            generalize begE l o t = E0 at *
            have tt0 : (B0 == B0) = true := by simp
            have tt1 : (E0 == E0) = true := by simp
            go_wp2_with fail
            clear hm'
            refine C1.out.mono ?_
            rintro e w3 ⟨rfl, hB, _⟩
            have HB3 := hide hB
            clear hB C1
            go_wp2_with fail
            refine (C2.out _ HB3.out).mono ?_
            rintro e w4 ⟨rfl, hB, _⟩
            have HB4 := hide hB
            clear hB C2 HB3
            go_wp2_with fail
            go_meet
            exact ⟨by simp, _, _, HO2, HL2, HB4⟩
          · have hm' : d.tmod 8 = 6 := hm
            clear hm hm8
            have HO2 := hide (HO.out.beg o t)
            have HL2 : Hid ((begL l o t).length ≤ k + 1) := hide (Nat.le_trans (beg_len l o t) (Nat.succ_le_succ HLN.out))
            have C1 := hide (b_beg (W0 := w) (M := M) (R := R) (F := none0) (q := l) (o := o) (p := o) (w := wr) HO.out hl9 t HB.out)
            have C2 : Hid (∀ W, Bth w M R none0 (begL l o t) o l o W → Calls Try.prog 14 #[.pointer (some ⟨R, 0, none⟩), .int .i64 t] W fun e w' => e = .returned (.tuple #[.bool (begB l o t), .int .i64 (begE l o t)]) ∧ Bth w M R none0 (begL l o t) o (begL l o t) o w' ∧ Kept none0 W w') := hide fun W hW => r_beg hl9 t hW
            clear HLN HB HO
            generalize begL l o t = L2 at *
            generalize begB l o t = B0 at *
            generalize begE l o t = E0 at *
            have tt0 : (B0 == B0) = true := by simp
            have tt1 : (E0 == E0) = true := by simp
            go_wp2_with fail
            clear hm'
            refine C1.out.mono ?_
            rintro e w3 ⟨rfl, hB, _⟩
            have HB3 := hide hB
            clear hB C1
            go_wp2_with fail
            refine (C2.out _ HB3.out).mono ?_
            rintro e w4 ⟨rfl, hB, _⟩
            have HB4 := hide hB
            clear hB C2 HB3
            go_wp2_with fail
            go_meet
            exact ⟨by simp, _, _, HO2, HL2, HB4⟩
          · have hm' : d.tmod 8 = 7 := hm
            clear hm hm8
            have HO2 := hide (HO.out.beg o t)
            have HL2 : Hid ((begL l o t).length ≤ k + 1) := hide (Nat.le_trans (beg_len l o t) (Nat.succ_le_succ HLN.out))
            have C1 := hide (b_beg (W0 := w) (M := M) (R := R) (F := none0) (q := l) (o := o) (p := o) (w := wr) HO.out hl9 t HB.out)
            have C2 : Hid (∀ W, Bth w M R none0 (begL l o t) o l o W → Calls Try.prog 14 #[.pointer (some ⟨R, 0, none⟩), .int .i64 t] W fun e w' => e = .returned (.tuple #[.bool (begB l o t), .int .i64 (begE l o t)]) ∧ Bth w M R none0 (begL l o t) o (begL l o t) o w' ∧ Kept none0 W w') := hide fun W hW => r_beg hl9 t hW
            clear HLN HB HO
            generalize begL l o t = L2 at *
            generalize begB l o t = B0 at *
            generalize begE l o t = E0 at *
            have tt0 : (B0 == B0) = true := by simp
            have tt1 : (E0 == E0) = true := by simp
            go_wp2_with fail
            clear hm'
            refine C1.out.mono ?_
            rintro e w3 ⟨rfl, hB, _⟩
            have HB3 := hide hB
            clear hB C1
            go_wp2_with fail
            refine (C2.out _ HB3.out).mono ?_
            rintro e w4 ⟨rfl, hB, _⟩
            have HB4 := hide hB
            clear hB C2 HB3
            go_wp2_with fail
            go_meet
            exact ⟨by simp, _, _, HO2, HL2, HB4⟩
        case rest =>
          clear HO HB HM8 hlen q1 q2 hk40 hkl HLN hl9
          obtain ⟨rfl, l, o, HO2, HLQ2, HBx⟩ := hcut
          have hk39 : k < 40 := by have := HKL.out; omega
          have q0' : (0 : Int) ≤ (k : Int) := by omega
          have hl9 : l.length ≤ 1000 := by have := HLQ2.out; have := HKL.out; omega
          have bc0 := r_cell HBx.out
          have C1 : Hid (∀ W, Bth w M R none0 l o l o W → Calls Try.prog 15 #[.pointer (some ⟨M, 0, none⟩)] W fun e w' => e = .returned (.int .i64 (hold l)) ∧ Bth w M R none0 l o l o w') := hide fun W kW => (b_doer kW).mono fun e w' ⟨h1, h2⟩ => ⟨h1, h2 ▸ kW⟩
          have C2 : Hid (∀ W, Bth w M R none0 l o l o W → Calls Try.prog 16 #[.pointer (some ⟨R, 0, none⟩)] W fun e w' => e = .returned (.int .i64 (hold l)) ∧ Bth w M R none0 l o l o w') := hide fun W kW => (r_doer kW).mono fun e w' ⟨h1, h2⟩ => ⟨h1, h2 ▸ kW⟩
          have C3 : Hid (∀ W, Bth w M R none0 l o l o W → Calls Try.prog 17 #[.pointer (some ⟨M, 0, none⟩)] W fun e w' => e = .returned (.bool o) ∧ Bth w M R none0 l o l o w') := hide fun W kW => (b_over kW).mono fun e w' ⟨h1, h2⟩ => ⟨h1, h2 ▸ kW⟩
          obtain ⟨T, hT⟩ : ∃ T, l.tail = T := ⟨_, rfl⟩
          obtain ⟨n, hn⟩ : ∃ n, T.length = n := ⟨_, rfl⟩
          have hT9 : T.length ≤ 1000 := by rw [← hT, List.length_tail]; omega
          have C4 : Hid (∀ W, Bth w M R none0 l o l o W → Calls Try.prog 18 #[.pointer (some ⟨M, 0, none⟩)] W fun e w' => ∃ a c, e = .returned (.slice a n c) ∧ RowZ w' a T ∧ Below W.heap.size W w') := hide fun W kW => by
            have := b_waits hl9 kW
            rw [hT, hn] at this
            exact this
          have C5 : Hid (∀ W, Bth w M R none0 l o l o W → Calls Try.prog 19 #[.pointer (some ⟨R, 0, none⟩)] W fun e w' => ∃ a c, e = .returned (.slice a n c) ∧ RowZ w' a T ∧ Below W.heap.size W w') := hide fun W kW => by
            have := r_waits kW
            rw [hT, hn] at this
            exact this.mono fun e w' ⟨⟨a, c, h1, h2⟩, h3⟩ => ⟨a, c, h1, h3.symm ▸ h2, h3 ▸ Below.refl _ _⟩
          have HI : Hid (∀ a1 a2 c1 c2 W, RowZ W a1 T → RowZ W a2 T → Calls Try.prog 12 #[.slice a1 n c1, .slice a2 n c2] W fun e w' => e = .returned (.bool true) ∧ Below W.heap.size W w') := hide fun a1 a2 c1 c2 W k1 k2 => by
            have := same_ints a1 a2 c1 c2 T W hT9 k1 k2
            rw [hn] at this
            exact this
          clear hn hT9 hT hl9
          generalize hold l = H at *
          have tt2 : (H != H) = false := by simp
          have tt3 : (o != o) = false := by simp
          go_wp2_with fail
          refine wp_region_noPanic ?_
          refine wp_region_held_drew (S := fun w' => w'.cell? ⟨R, 1, none⟩ = some (.bool o)) (by kernel_rfl) ?_ (fun hHeld => ?_)
          · exact bc0
          refine wpAnyH_take (i := 0) (v := ?_) rfl (by kernel_rfl) (by kernel_rfl) (by kernel_rfl) (fun _ _ _ h => h) (Or.inl ⟨by rfl, ?_⟩) (by first | trivial | assumption) ?_
          rotate_left 1
          · (intro w hSw; (try dsimp only at hSw); go_simp; all_goals with_reducible rfl)
          try simp only [Act.put, List.getElem_toArray, List.getElem_cons_zero, List.getElem_cons_succ, List.setIfInBounds_toArray, List.set_cons_zero, List.set_cons_succ]
          refine wpAnyH_take (i := 1) (v := ?_) rfl (by kernel_rfl) (by kernel_rfl) (by kernel_rfl) (fun _ _ _ h => h) (Or.inl ⟨by rfl, ?_⟩) (by first | trivial | assumption) ?_
          rotate_left 1
          · (intro w hSw; (try dsimp only at hSw); go_simp; all_goals with_reducible rfl)
          try simp only [Act.put, List.getElem_toArray, List.getElem_cons_zero, List.getElem_cons_succ, List.setIfInBounds_toArray, List.set_cons_zero, List.set_cons_succ]
          refine wpAnyH_take (i := 2) (v := ?_) rfl (by kernel_rfl) (by kernel_rfl) (by kernel_rfl) (fun _ _ _ h => h) (Or.inl ⟨by rfl, ?_⟩) (by first | trivial | assumption) ?_
          rotate_left 1
          · (intro w hSw; (try dsimp only at hSw); go_simp; all_goals with_reducible rfl)
          try simp only [Act.put, List.getElem_toArray, List.getElem_cons_zero, List.getElem_cons_succ, List.setIfInBounds_toArray, List.set_cons_zero, List.set_cons_succ]
          refine wpAnyH_take (i := 3) (v := ?_) rfl (by kernel_rfl) (by kernel_rfl) (by kernel_rfl) (fun _ _ _ h => h) (Or.inl ⟨by rfl, ?_⟩) (by first | trivial | assumption) ?_
          rotate_left 1
          · (intro w hSw; (try dsimp only at hSw); go_simp; all_goals with_reducible rfl)
          try simp only [Act.put, List.getElem_toArray, List.getElem_cons_zero, List.getElem_cons_succ, List.setIfInBounds_toArray, List.set_cons_zero, List.set_cons_succ]
          refine wpAnyH_take (i := 5) (v := ?_) rfl (by kernel_rfl) (by kernel_rfl) (by kernel_rfl) (fun _ _ _ h => h) (Or.inl ⟨by rfl, ?_⟩) (by first | trivial | assumption) ?_
          rotate_left 1
          · (intro w hSw; (try dsimp only at hSw); go_simp; all_goals with_reducible rfl)
          try simp only [Act.put, List.getElem_toArray, List.getElem_cons_zero, List.getElem_cons_succ, List.setIfInBounds_toArray, List.set_cons_zero, List.set_cons_succ]
          refine wpAnyH_ready (rs := [4]) (by kernel_rfl) (by simp) ?_
          refine AllReadyH.cons rfl (fun K hK => ?_) ?_
          · (go_simp; go_at_call 15; refine (C1.out _ HBx.out.drew).mono ?_; rintro e w3 ⟨rfl, hB⟩; have HB3 := hide hB; have bc3 := r_cell hB; clear hB C1)
            refine hK.out _ _ ?_ (fun hHeld => ?_)
            · (first | exact bc3 | exact bc4 | exact bc5 | exact bc6 | exact bc7 | exact bc8 | assumption)
            clear hK K
            try simp only [Act.put, List.getElem_toArray, List.getElem_cons_zero, List.getElem_cons_succ, List.setIfInBounds_toArray, List.set_cons_zero, List.set_cons_succ]
            refine wpAnyH_ready (rs := [6]) (by kernel_rfl) (by simp) ?_
            refine AllReadyH.cons rfl (fun K hK => ?_) ?_
            · (go_simp; go_at_call 16; refine (C2.out _ HB3.out).mono ?_; rintro e w4 ⟨rfl, hB⟩; have HB4 := hide hB; have bc4 := r_cell hB; clear hB C2)
              refine hK.out _ _ ?_ (fun hHeld => ?_)
              · (first | exact bc3 | exact bc4 | exact bc5 | exact bc6 | exact bc7 | exact bc8 | assumption)
              clear hK K
              try simp only [Act.put, List.getElem_toArray, List.getElem_cons_zero, List.getElem_cons_succ, List.setIfInBounds_toArray, List.set_cons_zero, List.set_cons_succ]
              refine wpAnyH_take (i := 7) (v := ?_) rfl (by kernel_rfl) (by kernel_rfl) (by kernel_rfl) (fun _ _ _ h => h) (Or.inl ⟨by rfl, ?_⟩) (by first | trivial | assumption) ?_
              rotate_left 1
              · (intro w hSw; (try dsimp only at hSw); go_simp; all_goals with_reducible rfl)
              try simp only [Act.put, List.getElem_toArray, List.getElem_cons_zero, List.getElem_cons_succ, List.setIfInBounds_toArray, List.set_cons_zero, List.set_cons_succ]
              refine wpAnyH_take (i := 8) (v := ?_) rfl (by kernel_rfl) (by kernel_rfl) (by kernel_rfl) (fun _ _ _ h => h) (Or.inl ⟨by rfl, ?_⟩) (by first | trivial | assumption) ?_
              rotate_left 1
              · (intro w hSw; (try dsimp only at hSw); go_simp; all_goals with_reducible rfl)
              try simp only [Act.put, List.getElem_toArray, List.getElem_cons_zero, List.getElem_cons_succ, List.setIfInBounds_toArray, List.set_cons_zero, List.set_cons_succ]
              refine wpAnyH_take (i := 9) (v := ?_) rfl (by kernel_rfl) (by kernel_rfl) (by kernel_rfl) (fun _ _ _ h => h) (Or.inl ⟨by rfl, ?_⟩) (by first | trivial | assumption) ?_
              rotate_left 1
              · (intro w hSw; (try dsimp only at hSw); go_simp; all_goals with_reducible rfl)
              try simp only [Act.put, List.getElem_toArray, List.getElem_cons_zero, List.getElem_cons_succ, List.setIfInBounds_toArray, List.set_cons_zero, List.set_cons_succ]
              refine wpAnyH_take (i := 10) (v := ?_) rfl (by kernel_rfl) (by kernel_rfl) (by kernel_rfl) (fun _ _ _ h => h) (Or.inl ⟨by rfl, ?_⟩) (by first | trivial | assumption) ?_
              rotate_left 1
              · (intro w hSw; (try dsimp only at hSw); go_simp; all_goals with_reducible rfl)
              try simp only [Act.put, List.getElem_toArray, List.getElem_cons_zero, List.getElem_cons_succ, List.setIfInBounds_toArray, List.set_cons_zero, List.set_cons_succ]
              refine wpAnyH_take (i := 12) (v := ?_) rfl (by kernel_rfl) (by kernel_rfl) (by kernel_rfl) (fun _ _ _ h => h) (Or.inl ⟨by rfl, ?_⟩) (by first | trivial | assumption) ?_
              rotate_left 1
              · (intro w hSw; (try dsimp only at hSw); go_simp; all_goals with_reducible rfl)
              try simp only [Act.put, List.getElem_toArray, List.getElem_cons_zero, List.getElem_cons_succ, List.setIfInBounds_toArray, List.set_cons_zero, List.set_cons_succ]
              refine wpAnyH_take (i := 13) (v := ?_) rfl (by kernel_rfl) (by kernel_rfl) (by kernel_rfl) (fun _ _ _ h => h) (Or.inl ⟨by rfl, ?_⟩) (by first | trivial | assumption) ?_
              rotate_left 1
              · (intro w hSw; (try dsimp only at hSw); go_simp; all_goals with_reducible rfl)
              try simp only [Act.put, List.getElem_toArray, List.getElem_cons_zero, List.getElem_cons_succ, List.setIfInBounds_toArray, List.set_cons_zero, List.set_cons_succ]
              refine wpAnyH_take (i := 14) (v := ?_) rfl (by kernel_rfl) (by kernel_rfl) (by kernel_rfl) (fun _ _ _ h => h) (Or.inl ⟨by rfl, ?_⟩) (by first | trivial | assumption) ?_
              rotate_left 1
              · (intro w hSw; (try dsimp only at hSw); go_simp; all_goals with_reducible rfl)
              try simp only [Act.put, List.getElem_toArray, List.getElem_cons_zero, List.getElem_cons_succ, List.setIfInBounds_toArray, List.set_cons_zero, List.set_cons_succ]
              refine wpAnyH_take (i := 15) (v := ?_) rfl (by kernel_rfl) (by kernel_rfl) (by kernel_rfl) (fun _ _ _ h => h) (Or.inl ⟨by rfl, ?_⟩) (by first | trivial | assumption) ?_
              rotate_left 1
              · (intro w hSw; (try dsimp only at hSw); go_simp; all_goals with_reducible rfl)
              try simp only [Act.put, List.getElem_toArray, List.getElem_cons_zero, List.getElem_cons_succ, List.setIfInBounds_toArray, List.set_cons_zero, List.set_cons_succ]
              refine wpAnyH_ready (rs := [11]) (by kernel_rfl) (by simp) ?_
              refine AllReadyH.cons rfl (fun K hK => ?_) ?_
              · (go_simp; go_at_call 17; refine (C3.out _ HB4.out).mono ?_; rintro e w5 ⟨rfl, hB⟩; have HB5 := hide hB; have bc5 := r_cell hB; clear hB C3)
                refine hK.out _ _ ?_ (fun hHeld => ?_)
                · (first | exact bc3 | exact bc4 | exact bc5 | exact bc6 | exact bc7 | exact bc8 | assumption)
                clear hK K
                try simp only [Act.put, List.getElem_toArray, List.getElem_cons_zero, List.getElem_cons_succ, List.setIfInBounds_toArray, List.set_cons_zero, List.set_cons_succ]
                refine wpAnyH_take (i := 16) (v := ?_) rfl (by kernel_rfl) (by kernel_rfl) (by kernel_rfl) (fun _ _ _ h => h) (Or.inl ⟨by rfl, ?_⟩) (by first | trivial | assumption) ?_
                rotate_left 1
                · (intro w hSw; (try dsimp only at hSw); go_simp; all_goals with_reducible rfl)
                try simp only [Act.put, List.getElem_toArray, List.getElem_cons_zero, List.getElem_cons_succ, List.setIfInBounds_toArray, List.set_cons_zero, List.set_cons_succ]
                refine wpAnyH_take (i := 17) (v := ?_) rfl (by kernel_rfl) (by kernel_rfl) (by kernel_rfl) (fun _ _ _ h => h) (Or.inl ⟨by rfl, ?_⟩) (by first | trivial | assumption) ?_
                rotate_left 1
                · (intro w hSw; (try dsimp only at hSw); go_simp; all_goals with_reducible rfl)
                try simp only [Act.put, List.getElem_toArray, List.getElem_cons_zero, List.getElem_cons_succ, List.setIfInBounds_toArray, List.set_cons_zero, List.set_cons_succ]
                refine wpAnyH_take (i := 18) (v := ?_) rfl (by kernel_rfl) (by kernel_rfl) (by kernel_rfl) (fun _ _ _ h => h) (Or.inl ⟨by rfl, ?_⟩) (by first | trivial | assumption) ?_
                rotate_left 1
                · (intro w hSw; (try dsimp only at hSw); go_simp; all_goals with_reducible rfl)
                try simp only [Act.put, List.getElem_toArray, List.getElem_cons_zero, List.getElem_cons_succ, List.setIfInBounds_toArray, List.set_cons_zero, List.set_cons_succ]
                refine wpAnyH_take (i := 19) (v := ?_) rfl (by kernel_rfl) (by kernel_rfl) (by kernel_rfl) (fun _ _ _ h => h) (Or.inl ⟨by rfl, ?_⟩) (by first | trivial | assumption) ?_
                rotate_left 1
                · (intro w hSw; (try dsimp only at hSw); go_simp; all_goals with_reducible rfl)
                try simp only [Act.put, List.getElem_toArray, List.getElem_cons_zero, List.getElem_cons_succ, List.setIfInBounds_toArray, List.set_cons_zero, List.set_cons_succ]
                refine wpAnyH_take (i := 21) (v := ?_) rfl (by kernel_rfl) (by kernel_rfl) (by kernel_rfl) (fun _ _ _ h => h) (Or.inl ⟨by rfl, ?_⟩) (by first | trivial | assumption) ?_
                rotate_left 1
                · (intro w hSw; (try dsimp only at hSw); go_simp; all_goals with_reducible rfl)
                try simp only [Act.put, List.getElem_toArray, List.getElem_cons_zero, List.getElem_cons_succ, List.setIfInBounds_toArray, List.set_cons_zero, List.set_cons_succ]
                refine wpAnyH_ready (rs := [20]) (by kernel_rfl) (by simp) ?_
                refine AllReadyH.cons rfl (fun K hK => ?_) ?_
                · (go_simp; go_at_call 18; refine (C4.out _ HB5.out).mono ?_; rintro e w6 ⟨a6, c6, rfl, hz, hb⟩; have hB := HB5.out.below hb; have HB6 := hide hB; have HZ6 := hide hz; have bc6 := r_cell hB; clear hB hz hb C4)
                  refine hK.out _ _ ?_ (fun hHeld => ?_)
                  · (first | exact bc3 | exact bc4 | exact bc5 | exact bc6 | exact bc7 | exact bc8 | assumption)
                  clear hK K
                  try simp only [Act.put, List.getElem_toArray, List.getElem_cons_zero, List.getElem_cons_succ, List.setIfInBounds_toArray, List.set_cons_zero, List.set_cons_succ]
                  refine wpAnyH_ready (rs := [22]) (by kernel_rfl) (by simp) ?_
                  refine AllReadyH.cons rfl (fun K hK => ?_) ?_
                  · (go_simp; go_at_call 19; refine (C5.out _ HB6.out).mono ?_; rintro e w7 ⟨a7, c7, rfl, hz, hw⟩; have hB := HB6.out.below hw; have HB7 := hide hB; have HZ7 := hide hz; have HZ8 := hide (HZ6.out.below hw); have bc7 := r_cell hB; clear hB hz hw C5)
                    refine hK.out _ _ ?_ (fun hHeld => ?_)
                    · (first | exact bc3 | exact bc4 | exact bc5 | exact bc6 | exact bc7 | exact bc8 | assumption)
                    clear hK K
                    try simp only [Act.put, List.getElem_toArray, List.getElem_cons_zero, List.getElem_cons_succ, List.setIfInBounds_toArray, List.set_cons_zero, List.set_cons_succ]
                    refine wpAnyH_ready (rs := [23]) (by kernel_rfl) (by simp) ?_
                    refine AllReadyH.cons rfl (fun K hK => ?_) ?_
                    · (go_simp; go_at_call 12; refine (HI.out _ _ _ _ _ HZ8.out HZ7.out).mono ?_; rintro e w8 ⟨rfl, hb⟩; have hB := HB7.out.below hb; have HB8 := hide hB; have bc8 := r_cell hB; clear hB hb HI)
                      refine hK.out _ _ ?_ (fun hHeld => ?_)
                      · (first | exact bc3 | exact bc4 | exact bc5 | exact bc6 | exact bc7 | exact bc8 | assumption)
                      clear hK K
                      try simp only [Act.put, List.getElem_toArray, List.getElem_cons_zero, List.getElem_cons_succ, List.setIfInBounds_toArray, List.set_cons_zero, List.set_cons_succ]
                      refine wpAnyH_take (i := 24) (v := ?_) rfl (by kernel_rfl) (by kernel_rfl) (by kernel_rfl) (fun _ _ _ h => h) (Or.inl ⟨by rfl, ?_⟩) (by first | trivial | assumption) ?_
                      rotate_left 1
                      · (intro w hSw; (try dsimp only at hSw); go_simp; all_goals with_reducible rfl)
                      try simp only [Act.put, List.getElem_toArray, List.getElem_cons_zero, List.getElem_cons_succ, List.setIfInBounds_toArray, List.set_cons_zero, List.set_cons_succ]
                      refine wpAnyH_take (i := 25) (v := ?_) rfl (by kernel_rfl) (by kernel_rfl) (by kernel_rfl) (fun _ _ _ h => h) (Or.inl ⟨by rfl, ?_⟩) (by first | trivial | assumption) ?_
                      rotate_left 1
                      · (intro w hSw; (try dsimp only at hSw); go_simp; all_goals with_reducible rfl)
                      try simp only [Act.put, List.getElem_toArray, List.getElem_cons_zero, List.getElem_cons_succ, List.setIfInBounds_toArray, List.set_cons_zero, List.set_cons_succ]
                      refine wpAnyH_done (by kernel_rfl) ?_ _
                      refine NoPanic.normal ?_
                      clear hHeld bc0 bc3 bc4 bc5 bc6 bc7 bc8 HBx HB3 HB4 HB5 HB6 HB7 HZ6 HZ7 HZ8
                      go_wp2_with fail
                      go_roundw
                      case rel => exact ⟨k + 1, l, o, by go_num, HKL.out.1, HKL.out.2, HO2, HLQ2.out, HB8⟩
                      case measure => have := HKL.out; simp [intOf]; omega
                    exact AllReadyH.nil
                  exact AllReadyH.nil
                exact AllReadyH.nil
              exact AllReadyH.nil
            exact AllReadyH.nil
          exact AllReadyH.nil
      · have q2' : ¬ (k : Int) < 40 := by omega
        have q1' : (k : Int) < (l1 : Int) := by omega
        have HBB := hide HB.out.2.2
        have HAW := hide awake_any
        clear HB
        go_wp2_with fail
        refine (HAW.out _).mono ?_
        rintro e w3 ⟨rfl, hb⟩
        have HF := hide (below_next HBB.out hb)
        clear hb HBB HAW
        go_wp2
        go_ret
        exact ⟨rfl, HF.out⟩
    · have q1' : ¬ (k : Int) < (l1 : Int) := by omega
      have HBB := hide HB.out.2.2
      have HAW := hide awake_any
      clear HB
      go_wp2_with fail
      refine (HAW.out _).mono ?_
      rintro e w3 ⟨rfl, hb⟩
      have HF := hide (below_next HBB.out hb)
      clear hb HBB HAW
      go_wp2
      go_ret
      exact ⟨rfl, HF.out⟩

end Go.Proofs.Ytinipmandmhgnaa
