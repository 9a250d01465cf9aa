/-
  What the law PumpPlays asks comes out true at any list of acts.
-/
import Derived.Test.YtkjiompjfolipaaAwake
import Derived.Test.YtkjiompjfolipaaMem
import Derived.Deep.RegionHeld3
namespace Go.Proofs.Ytkjiompjfolipaa
open Go.RowKit

set_option maxHeartbeats 400000 in
theorem total_cell (M L : Nat) (w : World) (c9 : w.cell? ⟨M, 9, none⟩ = some (.int .i64 (L : Int))) : Calls Try.prog 14 #[.pointer (some ⟨M, 0, none⟩)] w fun e w' => e = .returned (.int .i64 (L : Int)) ∧ w' = w := by
  go_enter Try.func14, Try.ntmps14
  go_wp2
  go_ret
  exact ⟨rfl, rfl⟩

set_option maxRecDepth 20000 in
set_option maxHeartbeats 8000000 in
theorem plays_walk (n : Int) (a1 : Option Addr) (l1 c1 : Nat) (h1 : l1 ≤ c1) (g1 : c1 ≤ maxLen) (w : World) (hact1 : Acts w a1 l1) : Calls Try.prog 3 #[.int .i64 n, .slice a1 l1 c1] w fun e w' => e = .returned (.bool true) ∧ Below w.heap.size w w' := by
  have hl1 : l1 ≤ maxLen := Nat.le_trans h1 g1
  unfold maxLen at hl1
  clear h1 g1
  have HA1 := hide hact1
  clear hact1
  have HAW := hide awake_any
  go_enter Try.func3, Try.ntmps3
  go_wp2_with fail
  refine (x_new n).mono ?_
  rintro e w1 ⟨rfl, hA⟩
  obtain ⟨M, hMe⟩ : ∃ M, M = w.heap.size := ⟨_, rfl⟩
  rw [← hMe] at hA ⊢
  have HA := hide hA
  clear hA hMe
  go_wp2_with fail
  refine (r_new n HA.out).mono ?_
  rintro e w2 ⟨rfl, hB⟩
  obtain ⟨R, hRe⟩ : ∃ R, R = w1.heap.size := ⟨_, rfl⟩
  rw [← hRe] at hB ⊢
  have HB0 := hide hB
  have HO0 : Hid (Okp (ps0 (cut8 n))) := hide (cut8_ok n)
  have HL0 : Hid ((ps0 (cut8 n)).l.length ≤ 0) := hide (by simp [ps0])
  clear hB hRe HA
  generalize ps0 (cut8 n) = s0 at *
  go_wp2_with fail
  go_loopw [7] (fun i wr => ∃ k s, i = .int .i64 ((k : Nat) : Int) ∧ k ≤ 100 ∧ k ≤ l1 ∧ Hid (Okp s) ∧ Hid (s.l.length ≤ k) ∧ Hid (Bth w M R none0 s s wr)) (fun i _ => 100 - (intOf i).toNat)
  case atStart => exact ⟨0, s0, rfl, by omega, by omega, HO0, HL0, HB0⟩
  case round =>
    clear HB0 HO0 HL0
    obtain ⟨k, s, rfl, hk100, hkl, HO, HLN, HB⟩ := hrel
    by_cases q1 : k < l1
    · have q1' : (k : Int) < (l1 : Int) := by omega
      by_cases q2 : k < 100
      · have q2' : (k : Int) < 100 := by omega
        have q0' : (0 : Int) ≤ (k : Int) := by omega
        obtain ⟨b2, off2, r, v, rfl, hlt2, p0, p1⟩ := HA1.out k q1
        have p0' := ((bcell HB.out.2.2).1 _ _ hlt2).trans p0
        have p1' := ((bcell HB.out.2.2).1 _ _ hlt2).trans p1
        clear p0 p1
        obtain ⟨b, hb⟩ : ∃ b, b = wr.heap.size := ⟨_, rfl⟩
        obtain ⟨w3, hw3⟩ : ∃ w3, w3 = wr.alloc (.cells #[.bool r, .int .i64 v] 28) := ⟨_, rfl⟩
        have HB3 : Hid (Bth w M R (fun k => k = b) s s w3) := hide (by rw [hw3, hb]; exact HB.out.boxed _)
        have d1 : w3.cell? ⟨b, 1, none⟩ = some (.int .i64 v) := by rw [hw3, hb]; exact Lib.cell_of_heap (heap_alloc_new _ _) 1
        have HK : Hid (∀ W W', Kept (fun k => k = b) W W' → ∀ j, W'.cell? ⟨b, j, none⟩ = W.cell? ⟨b, j, none⟩) := hide fun W W' k j => World.cell?_of_block (k.1 b rfl)
        have HL2 : Hid (s.l.length ≤ 1000) := hide (by have := HLN.out; omega)
        cases r
        · have D1 := hide d1
          have C1 := hide (r_send HL2.out v HB3.out)
          have C2 := hide (fun W (q : Bth w M R (fun k => k = b) s (s.snd v) W) => b_send HO.out HL2.out v q)
          have HO2 : Hid (Okp (s.snd v)) := HO
          have HL3 : Hid ((s.snd v).l.length ≤ 1000) := hide (by have := HLN.out; rw [snd_len]; omega)
          clear HB3 HL2 HB HO d1
          go_wp2_with fail
          rw [← hw3, ← hb]
          have d1 := D1.out
          clear hw3 hb p0' p1' D1
          try go_wp2_with fail
          refine C1.out.mono ?_
          rintro e w4 ⟨rfl, hB4, hk4⟩
          have HB4 := hide hB4
          have d4 := (HK.out _ _ hk4 1).trans d1
          clear hB4 hk4 C1 d1
          go_wp2_with fail
          refine (C2.out _ HB4.out).mono ?_
          rintro e w4b ⟨rfl, hB4, hk4⟩
          have HB4b := hide hB4
          have d4b := (HK.out _ _ hk4 1).trans d4
          clear hB4 hk4 C2 d4 HB4
          have HL2 := HL3
          clear HL3
          have HB9 := HB4b
          clear HB4b
          have d1 := d4b
          clear d4b
          have HLK : Hid ((s.snd v).l.length ≤ k + 1) := hide (by have := HLN.out; rw [snd_len]; omega)
          clear HLN
          generalize s.snd v = s2 at *
          have C3 := hide (fun W (q : Bth w M R (fun k => k = b) s2 s2 W) => b_recv HO2.out HL2.out v q)
          have C4 := hide (fun W (q : Bth w M R (fun k => k = b) s2 s2 W) => r_recv HO2.out HL2.out v q)
          have CC := hide (fun W (q : Bth w M R (fun k => k = b) s2 s2 W) => And.intro q.xs.2.1.1.cells.2.1 (r_cells q).2)
          have CE := hide (fun W (q : Bth w M R (fun k => k = b) s2 s2 W) => q.mono (G := none0) fun _ h => h.elim)
          clear HL2
          generalize rcvV s2 v = V at *
          generalize rcvL s2 v = L at *
          generalize rcvA s2 v = A at *
          generalize rcvE s2 v = E0 at *
          have tv : (V == V) = true := by simp
          have tl : (L == L) = true := by simp
          have ta : (A == A) = true := by simp
          have te : (E0 == E0) = true := by simp
          obtain ⟨Ln, hLn⟩ : ∃ Ln, Ln = s2.l.length := ⟨_, rfl⟩
          rw [← hLn] at CC
          clear hLn
          go_wp2_with fail
          refine (C3.out _ HB9.out).mono ?_
          rintro e w5 ⟨rfl, hB5, hk5⟩
          have HB5 := hide hB5
          have e1 := (HK.out _ _ hk5 1).trans d1
          clear hB5 hk5 C3 HB9 d1
          go_wp2_with fail
          refine (C4.out _ HB5.out).mono ?_
          rintro e w6 ⟨rfl, hB6, hk6⟩
          obtain ⟨m9, ra2, rc2, mR⟩ := CC.out _ hB6
          have HBe := hide (CE.out _ hB6)
          clear hB6 hk6 C4 HB5 e1 HK CC CE
          go_wp2_with fail
          go_region_held3 (fun w' => w'.cell? ⟨M, 9, none⟩ = some (.int .i64 (Ln : Int)) ∧ w'.cell? ⟨R, 0, none⟩ = some (.slice ra2 Ln rc2)) (first | (constructor <;> assumption) | assumption | go_keep) (first | (go_at_call 14; refine (total_cell M Ln _ (by first | assumption | exact (And.left (by assumption)))).mono ?_; rintro e w7 ⟨rfl, hw7⟩; subst hw7))
          have HB7 := hide HBe.out.drew
          clear HBe m9 mR
          go_wp2_with fail
          go_roundw
          case rel => exact ⟨k + 1, s2, by go_num, by omega, by omega, HO2, HLK, HB7⟩
          case measure => simp [intOf]; omega
        · have D1 := hide d1
          have HO2 := HO
          clear d1
          have HB9 := HB3
          clear HB3
          go_wp2_with fail
          rw [← hw3, ← hb]
          have d1 := D1.out
          clear hw3 hb p0' p1' D1
          have HLK : Hid (s.l.length ≤ k + 1) := hide (by have := HLN.out; omega)
          clear HLN HB HO
          generalize s = s2 at *
          have C3 := hide (fun W (q : Bth w M R (fun k => k = b) s2 s2 W) => b_recv HO2.out HL2.out v q)
          have C4 := hide (fun W (q : Bth w M R (fun k => k = b) s2 s2 W) => r_recv HO2.out HL2.out v q)
          have CC := hide (fun W (q : Bth w M R (fun k => k = b) s2 s2 W) => And.intro q.xs.2.1.1.cells.2.1 (r_cells q).2)
          have CE := hide (fun W (q : Bth w M R (fun k => k = b) s2 s2 W) => q.mono (G := none0) fun _ h => h.elim)
          clear HL2
          generalize rcvV s2 v = V at *
          generalize rcvL s2 v = L at *
          generalize rcvA s2 v = A at *
          generalize rcvE s2 v = E0 at *
          have tv : (V == V) = true := by simp
          have tl : (L == L) = true := by simp
          have ta : (A == A) = true := by simp
          have te : (E0 == E0) = true := by simp
          obtain ⟨Ln, hLn⟩ : ∃ Ln, Ln = s2.l.length := ⟨_, rfl⟩
          rw [← hLn] at CC
          clear hLn
          refine (C3.out _ HB9.out).mono ?_
          rintro e w5 ⟨rfl, hB5, hk5⟩
          have HB5 := hide hB5
          have e1 := (HK.out _ _ hk5 1).trans d1
          clear hB5 hk5 C3 HB9 d1
          go_wp2_with fail
          refine (C4.out _ HB5.out).mono ?_
          rintro e w6 ⟨rfl, hB6, hk6⟩
          obtain ⟨m9, ra2, rc2, mR⟩ := CC.out _ hB6
          have HBe := hide (CE.out _ hB6)
          clear hB6 hk6 C4 HB5 e1 HK CC CE
          go_wp2_with fail
          go_region_held3 (fun w' => w'.cell? ⟨M, 9, none⟩ = some (.int .i64 (Ln : Int)) ∧ w'.cell? ⟨R, 0, none⟩ = some (.slice ra2 Ln rc2)) (first | (constructor <;> assumption) | assumption | go_keep) (first | (go_at_call 14; refine (total_cell M Ln _ (by first | assumption | exact (And.left (by assumption)))).mono ?_; rintro e w7 ⟨rfl, hw7⟩; subst hw7))
          have HB7 := hide HBe.out.drew
          clear HBe m9 mR
          go_wp2_with fail
          go_roundw
          case rel => exact ⟨k + 1, s2, by go_num, by omega, by omega, HO2, HLK, HB7⟩
          case measure => simp [intOf]; omega
      · have q2' : ¬ (k : Int) < 100 := by omega
        have HBB := hide HB.out.2.2
        clear HB
        go_wp2_with fail
        refine (HAW.out _).mono ?_
        rintro e w3 ⟨rfl, hb⟩
        have HF := hide (below_next HBB.out hb)
        clear hb HBB HAW
        go_wp2
        go_ret
        exact ⟨rfl, HF.out⟩
    · have q1' : ¬ (k : Int) < (l1 : Int) := by omega
      have HBB := hide HB.out.2.2
      clear HB
      go_wp2_with fail
      refine (HAW.out _).mono ?_
      rintro e w3 ⟨rfl, hb⟩
      have HF := hide (below_next HBB.out hb)
      clear hb HBB HAW
      go_wp2
      go_ret
      exact ⟨rfl, HF.out⟩

end Go.Proofs.Ytkjiompjfolipaa
