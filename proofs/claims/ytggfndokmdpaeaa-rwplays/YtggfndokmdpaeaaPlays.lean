/-
  What the laws RwPlays and RwAlone ask comes out true at any list of acts.
-/
import Derived.Test.YtggfndokmdpaeaaDoes
import Derived.Test.YtggfndokmdpaeaaMem
import Derived.Deep.DeepCutAuto
namespace Go.Proofs.Ytggfndokmdpaeaa
open Go.RowKit

set_option maxRecDepth 20000 in
set_option maxHeartbeats 8000000 in
theorem plays_walk (a1 : Option Addr) (l1 c1 : Nat) (h1 : l1 ≤ c1) (g1 : c1 ≤ maxLen) (w : World) (hact1 : Acts w a1 l1) : Calls Try.prog 3 #[.slice a1 l1 c1] w fun e w' => e = .returned (.bool true) ∧ Below w.heap.size w w' := by
  have hl1 : l1 ≤ maxLen := Nat.le_trans h1 g1
  unfold maxLen at hl1
  clear h1 g1
  have HA1 := hide hact1
  clear hact1
  have N0 := hide (x_new (w := w))
  go_enter Try.func3, Try.ntmps3
  go_wp2_with fail
  refine N0.out.mono ?_
  rintro e w1 ⟨rfl, hA⟩
  have HB0 := hide (Bth.start hA)
  obtain ⟨M, hMe⟩ : ∃ M, M = w.heap.size := ⟨_, rfl⟩
  obtain ⟨R, hRe⟩ : ∃ R, R = w1.heap.size := ⟨_, rfl⟩
  rw [← hMe, ← hRe] at HB0
  rw [← hMe]
  clear hA N0 hMe
  go_wp2_with fail
  rw [← hRe]
  clear hRe
  go_loopw [5] (fun i wr => ∃ k s l, i = .int .i64 ((k : Nat) : Int) ∧ k ≤ 60 ∧ k ≤ l1 ∧ Hid (Rep s l) ∧ List.length l ≤ k ∧ Hid (Bth w M R none0 s l wr)) (fun i _ => 60 - (intOf i).toNat)
  case atStart => exact ⟨0, _, [], rfl, by omega, by omega, Rep.nil, by simp, HB0⟩
  case round =>
    clear HB0
    obtain ⟨k, s, l, rfl, hk60, hkl, HO, hlen, HB⟩ := hrel
    by_cases q1 : k < l1
    · have q1' : (k : Int) < (l1 : Int) := by omega
      by_cases q2 : k < 60
      · have q2' : (k : Int) < 60 := by omega
        have q0' : (0 : Int) ≤ (k : Int) := by omega
        obtain ⟨b2, off2, d, t, rfl, hlt2, p0, p1, hd, _⟩ := HA1.out k q1
        have p0' := ((bcell HB.out.2.2).1 _ _ hlt2).trans p0
        have p1' := ((bcell HB.out.2.2).1 _ _ hlt2).trans p1
        have hk1 : k + 1 ≤ 60 ∧ k + 1 ≤ l1 := by omega
        have HD := hide (does_any w M R s l HO.out (by omega) d t hd wr HB.out)
        clear p0 p1 hd HO HB
        go_wp2_with fail
        refine HD.out.mono ?_
        rintro e w3 ⟨rfl, s2, l2, hr2, hl2, hB3⟩
        have HO2 := hide hr2
        have HB3 := hide hB3
        have hl3 : l2.length ≤ k + 1 := by omega
        clear hr2 hB3 HD p0' p1' hl2 hlen
        have HL := hide (alike_any w M R s2 l2 HO2.out (by omega) w3 HB3.out)
        clear HB3
        go_wp2_with fail
        refine HL.out.mono ?_
        rintro e w4 ⟨rfl, hB4⟩
        have HB4 := hide hB4
        clear HL hB4
        go_wp2_with fail
        go_roundw
        case rel => exact ⟨k + 1, s2, l2, by go_num, hk1.1, hk1.2, HO2, hl3, HB4⟩
        case measure => simp [intOf]; omega
      · have q2' : ¬ (k : Int) < 60 := by omega
        go_wp2_with fail
        refine (awake_any _).mono ?_
        rintro e w3 ⟨rfl, hb3⟩
        have hb4 := (HB.out.below hb3).2.2
        clear HB hb3
        go_wp2
        go_ret
        exact ⟨rfl, hb4⟩
    · have q1' : ¬ (k : Int) < (l1 : Int) := by omega
      go_wp2_with fail
      refine (awake_any _).mono ?_
      rintro e w3 ⟨rfl, hb3⟩
      have hb4 := (HB.out.below hb3).2.2
      clear HB hb3
      go_wp2
      go_ret
      exact ⟨rfl, hb4⟩

end Go.Proofs.Ytggfndokmdpaeaa
