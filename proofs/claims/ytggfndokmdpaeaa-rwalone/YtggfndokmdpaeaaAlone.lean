/-
  What the laws RwPlays and RwAlone ask comes out true at any list of acts.
-/
import Derived.Test.YtggfndokmdpaeaaDoes
import Derived.Test.YtggfndokmdpaeaaMem
import Derived.Deep.DeepCutAuto
namespace Go.Proofs.Ytggfndokmdpaeaa
open Go.RowKit

set_option maxRecDepth 20000 in
set_option maxHeartbeats 8000000 in
theorem alone_walk (a1 : Option Addr) (l1 c1 : Nat) (h1 : l1 ≤ c1) (g1 : c1 ≤ maxLen) (w : World) (hact1 : Acts w a1 l1) : Calls Try.prog 4 #[.slice a1 l1 c1] w fun e w' => e = .returned (.bool true) ∧ Below w.heap.size w w' := by
  have hl1 : l1 ≤ maxLen := Nat.le_trans h1 g1
  unfold maxLen at hl1
  clear h1 g1
  have HA1 := hide hact1
  clear hact1
  have N0 := hide (x_new (w := w))
  go_enter Try.func4, Try.ntmps4
  go_wp2_with fail
  refine N0.out.mono ?_
  rintro e w1 ⟨rfl, hA⟩
  have HB0 := hide (Bth.start hA)
  obtain ⟨M, hMe⟩ : ∃ M, M = w.heap.size := ⟨_, rfl⟩
  obtain ⟨R, hRe⟩ : ∃ R, R = w1.heap.size := ⟨_, rfl⟩
  rw [← hMe, ← hRe] at HB0
  rw [← hMe]
  clear hA N0 hMe
  go_wp2_with fail
  rw [← hRe]
  clear hRe
  go_loopw [5] (fun i wr => ∃ k s l, i = .int .i64 ((k : Nat) : Int) ∧ k ≤ 60 ∧ k ≤ l1 ∧ Hid (Rep s l) ∧ List.length l ≤ k ∧ Hid (Bth w M R none0 s l wr)) (fun i _ => 60 - (intOf i).toNat)
  case atStart => exact ⟨0, _, [], rfl, by omega, by omega, Rep.nil, by simp, HB0⟩
  case round =>
    clear HB0
    obtain ⟨k, s, l, rfl, hk60, hkl, HO, hlen, HB⟩ := hrel
    by_cases q1 : k < l1
    · have q1' : (k : Int) < (l1 : Int) := by omega
      by_cases q2 : k < 60
      · have q2' : (k : Int) < 60 := by omega
        have q0' : (0 : Int) ≤ (k : Int) := by omega
        obtain ⟨b2, off2, d, t, rfl, hlt2, p0, p1, hd, _⟩ := HA1.out k q1
        have p0' := ((bcell HB.out.2.2).1 _ _ hlt2).trans p0
        have p1' := ((bcell HB.out.2.2).1 _ _ hlt2).trans p1
        have hk1 : k + 1 ≤ 60 ∧ k + 1 ≤ l1 := by omega
        have HD := hide (does_any w M R s l HO.out (by omega) d t hd wr HB.out)
        clear p0 p1 hd HO HB
        go_wp2_with fail
        refine HD.out.mono ?_
        rintro e w3 ⟨rfl, s2, l2, hr2, hl2, hB3⟩
        have HO2 := hide hr2
        have HB3 := hide hB3
        have hl3 : l2.length ≤ k + 1 := by omega
        clear hr2 hB3 HD p0' p1' hl2 hlen
        have hs2 : s2.len ≤ 1000 := HO2.out.lens (by omega)
        have HW := hide (b_waits hs2 HB3.out)
        have hI := HO2.out.i
        have HINV : Hid ((s2.w ≠ 0 ∧ s2.rs.length = 0) ∨ (s2.w = 0 ∧ s2.rs.length = 0 ∧ s2.tw.length = 0 ∧ s2.tr.length = 0) ∨ (s2.w = 0 ∧ 1 ≤ s2.rs.length ∧ s2.tw.length = 0 ∧ s2.tr.length = 0) ∨ (s2.w = 0 ∧ 1 ≤ s2.rs.length ∧ 1 ≤ s2.tw.length)) := hide (by
          by_cases z1 : s2.w = 0
          · by_cases z2 : s2.rs = []
            · have z3 := hI.tw0 z1 z2
              have z4 := hI.tr0 z1 z3
              right; left; rw [z2, z3, z4]; exact ⟨z1, rfl, rfl, rfl⟩
            · have y2 := List.length_pos_iff.2 z2
              by_cases z3 : s2.tw = []
              · have z4 := hI.tr0 z1 z3
                right; right; left; rw [z3, z4]; exact ⟨z1, y2, rfl, rfl⟩
              · have y3 := List.length_pos_iff.2 z3
                right; right; right; exact ⟨z1, y2, y3⟩
          · left; rw [hI.alone z1]; exact ⟨z1, rfl⟩)
        have hls := St.lens hs2
        have HLS := hide hls
        have CW := hide (fun W (k : Bth w M R none0 s2 l2 W) => b_writer k)
        have CR := hide (fun W (k : Bth w M R none0 s2 l2 W) => b_readers hs2 k)
        clear hI hs2 hls
        generalize s2.w = X at *
        generalize s2.rs = q1 at *
        generalize s2.tw = q2 at *
        generalize s2.tr = q3 at *
        go_wp2_with fail
        refine HW.out.mono ?_
        rintro e w4 ⟨a4, c4, a5, c5, rfl, _, _, hb4⟩
        have HB4 := hide (HB3.out.below hb4)
        clear HW HB3 hb4
        go_wp2_with fail
        refine (CR.out _ HB4.out).mono ?_
        rintro e w5 ⟨a6, c6, rfl, _, hb5⟩
        have HB5 := hide (HB4.out.below hb5)
        clear CR HB4 hb5
        go_wp2_with fail
        have hls := HLS.out
        have hinv := HINV.out
        clear HINV HLS
        generalize q1.length = n1 at *
        generalize q2.length = n2 at *
        generalize q3.length = n3 at *
        refine (CW.out _ HB5.out).mono ?_
        rintro e w6 ⟨rfl, hw6⟩
        subst hw6
        rcases hinv with ⟨z1, z2⟩ | ⟨z1, z2, z3, z4⟩ | ⟨z1, z2, z3, z4⟩ | ⟨z1, z2, z3⟩
        · subst z2
          have y1 : (X != 0) = true := by simpa using z1
          have y2 : (X == 0) = false := by simpa using z1
          clear z1
          go_wp2_with fail
          refine (CW.out _ HB5.out).mono ?_
          rintro e w7 ⟨rfl, hw7⟩
          subst hw7
          go_wp2_with fail
          refine (CW.out _ HB5.out).mono ?_
          rintro e w8 ⟨rfl, hw8⟩
          subst hw8
          go_wp2_with fail
          go_roundw
          case rel => exact ⟨k + 1, s2, l2, by go_num, hk1.1, hk1.2, HO2, hl3, HB5⟩
          case measure => simp [intOf]; omega
        · subst z1
          subst z2
          subst z3
          subst z4
          go_wp2_with fail
          refine (CW.out _ HB5.out).mono ?_
          rintro e w7 ⟨rfl, hw7⟩
          subst hw7
          go_wp2_with fail
          refine (CW.out _ HB5.out).mono ?_
          rintro e w8 ⟨rfl, hw8⟩
          subst hw8
          go_wp2_with fail
          go_roundw
          case rel => exact ⟨k + 1, s2, l2, by go_num, hk1.1, hk1.2, HO2, hl3, HB5⟩
          case measure => simp [intOf]; omega
        · subst z1
          subst z3
          subst z4
          have y1 : ((n1 : Int) == 0) = false := by simp; omega
          have y2 : (0 : Int) < (n1 : Int) := by omega
          go_wp2_with fail
          refine (CW.out _ HB5.out).mono ?_
          rintro e w7 ⟨rfl, hw7⟩
          subst hw7
          go_wp2_with fail
          refine (CW.out _ HB5.out).mono ?_
          rintro e w8 ⟨rfl, hw8⟩
          subst hw8
          go_wp2_with fail
          go_roundw
          case rel => exact ⟨k + 1, s2, l2, by go_num, hk1.1, hk1.2, HO2, hl3, HB5⟩
          case measure => simp [intOf]; omega
        · subst z1
          have y1 : ((n1 : Int) == 0) = false := by simp; omega
          have y2 : (0 : Int) < (n1 : Int) := by omega
          have y3 : ((n2 : Int) == 0) = false := by simp; omega
          have y4 : wrap64 ((n2 : Int) + (n3 : Int)) = (n2 : Int) + (n3 : Int) := by unfold wrap64; omega
          have y5 : (0 : Int) < (n2 : Int) + (n3 : Int) := by omega
          go_wp2_with fail
          refine (CW.out _ HB5.out).mono ?_
          rintro e w7 ⟨rfl, hw7⟩
          subst hw7
          go_wp2_with fail
          refine (CW.out _ HB5.out).mono ?_
          rintro e w8 ⟨rfl, hw8⟩
          subst hw8
          go_wp2_with fail
          go_roundw
          case rel => exact ⟨k + 1, s2, l2, by go_num, hk1.1, hk1.2, HO2, hl3, HB5⟩
          case measure => simp [intOf]; omega
      · have q2' : ¬ (k : Int) < 60 := by omega
        go_wp2_with fail
        refine (awake_any _).mono ?_
        rintro e w3 ⟨rfl, hb3⟩
        have hb4 := (HB.out.below hb3).2.2
        clear HB hb3
        go_wp2
        go_ret
        exact ⟨rfl, hb4⟩
    · have q1' : ¬ (k : Int) < (l1 : Int) := by omega
      go_wp2_with fail
      refine (awake_any _).mono ?_
      rintro e w3 ⟨rfl, hb3⟩
      have hb4 := (HB.out.below hb3).2.2
      clear HB hb3
      go_wp2
      go_ret
      exact ⟨rfl, hb4⟩

end Go.Proofs.Ytggfndokmdpaeaa
