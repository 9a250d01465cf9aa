/-
  What the law PumpKeeps asks comes out true at any three numbers.
-/
import Derived.Test.YtkjiompjfolipaaAwake
namespace Go.Proofs.Ytkjiompjfolipaa
open Go.RowKit

/-- So many squares. -/
def sqs (n : Nat) : List Int := (List.range n).map fun j : Nat => (j : Int) * (j : Int)
theorem sqs_len (n : Nat) : (sqs n).length = n := by simp [sqs]
theorem sqs_get {n j : Nat} (h : j < n) : gz (sqs n) j = (j : Int) * (j : Int) := by simp [gz, sqs, List.getD_eq_getElem?_getD, h]
theorem sqs_snd (n K : Nat) : (⟨sqs n, K⟩ : Ps).snd ((n : Int) * (n : Int)) = ⟨sqs (n + 1), K⟩ := by simp [Ps.snd, sqs, List.range_succ]
theorem sq_small {j : Nat} (h : j ≤ 255) : 0 ≤ (j : Int) * (j : Int) ∧ (j : Int) * (j : Int) ≤ 65025 := by
  have h1 : j * j ≤ 255 * 255 := Nat.mul_le_mul h h
  have h2 : (j : Int) * (j : Int) = ((j * j : Nat) : Int) := by simp
  rw [h2]
  omega

set_option maxRecDepth 20000 in
set_option maxHeartbeats 4000000 in
theorem keeps_walk (z : Int) (hz : 0 ≤ z ∧ z ≤ 255) (n : Nat) (hn : n ≤ 255) (bh : Nat) (hbh : bh ≤ 255) (w : World) : Calls Try.prog 5 #[.int .u8 z, .int .u8 (n : Int), .int .u8 (bh : Int)] w fun e w' => e = .returned (.bool true) ∧ Below w.heap.size w w' := by
  obtain ⟨m, na, hm8, _, na3⟩ := u8_mod hz 8 (by omega) (by omega)
  obtain ⟨K, hK⟩ : ∃ K : Nat, K = 1 + m := ⟨_, rfl⟩
  have HK : Hid (wrap64 (1 + wrap64 (z.tmod 8)) = (K : Int)) := hide (by rw [show z.tmod 8 = (m : Int) from na, na3, hK]; unfold wrap64; omega)
  have hK8 : 1 ≤ K ∧ K ≤ 8 := by omega
  have N0 := hide (x_new (w := w) (K : Int))
  rw [show cut8 (K : Int) = K from by have := cut8_eq (K : Int); omega] at N0
  rw [show ps0 K = ⟨sqs 0, K⟩ from rfl] at N0
  clear na na3 hK hz hm8
  have HAW := hide awake_any
  go_enter Try.func5, Try.ntmps5
  go_wp2_with fail
  rw [HK.out]
  clear HK
  refine N0.out.mono ?_
  rintro e w1 ⟨rfl, hA⟩
  have HA := hide hA
  clear hA N0
  generalize w.heap.size = M at HA ⊢
  go_wp2_with fail
  go_loopw [9] (fun v9 wr => ∃ i : Nat, v9 = .int .i64 (i : Int) ∧ i ≤ n ∧ Hid (Xs w M none0 ⟨sqs i, K⟩ wr)) (fun v9 _ => n - (intOf v9).toNat)
  case atStart => exact ⟨0, rfl, by omega, HA⟩
  case round =>
    clear HA
    obtain ⟨i, rfl, hi, HA⟩ := hrel
    by_cases q : i < n
    · have q1 : (i : Int) < (n : Int) := by omega
      have hsq := sq_small (j := i) (by omega)
      have C1 := hide (x_send (s := ⟨sqs i, K⟩) hK8 (by show (sqs i).length ≤ 1000; rw [sqs_len]; omega) ((i : Int) * (i : Int)) HA.out)
      rw [sqs_snd] at C1
      go_wp2_with fail
      refine C1.out.mono ?_
      rintro e w2 ⟨rfl, hA, _⟩
      have HA2 := hide hA
      clear hA C1 HA
      go_wp2_with fail
      go_roundw
      case rel => exact ⟨i + 1, by go_num, by omega, HA2⟩
      case measure => simp [intOf]; omega
    · have ei : i = n := by omega
      subst ei
      have q1 : ¬ (i : Int) < (i : Int) := by omega
      obtain ⟨x, hx⟩ : ∃ x : Int, x = (i : Int) - (bh : Int) := ⟨_, rfl⟩
      have C2 := hide (x_recv (s := ⟨sqs i, K⟩) hK8 (by show (sqs i).length ≤ 1000; rw [sqs_len]; omega) x HA.out)
      have xb : -255 ≤ x ∧ x ≤ 255 := by omega
      clear HA
      by_cases c1 : x < 0
      · obtain ⟨e1, e2, e3, e4⟩ := rcv_no (s := ⟨sqs i, K⟩) (x := x) (Or.inl c1)
        rw [e1, e2, e3, e4] at C2
        clear e1 e2 e3 e4
        go_wp2_with fail
        rw [← hx]
        refine C2.out.mono ?_
        rintro e w2 ⟨rfl, hX, _⟩
        have HX2 := hide hX
        clear hX C2
        go_wp2_with fail
        refine (HAW.out _).mono ?_
        rintro e w9 ⟨rfl, hb⟩
        have HF := hide (below_next HX2.out.2.2 hb)
        clear hb HAW HX2
        go_wp2
        go_ret
        exact ⟨rfl, HF.out⟩
      by_cases c2 : bh = 0
      · obtain ⟨e1, e2, e3, e4⟩ := rcv_end (s := ⟨sqs i, K⟩) (x := x) (by show x = ((sqs i).length : Int); rw [sqs_len]; omega)
        rw [e1, e2, e3, e4] at C2
        clear e1 e2 e3 e4
        have b0 : ((bh : Int) == 0) = true := by simp; omega
        have b2 : ¬ (i : Int) < 0 := by omega
        rw [show x = (i : Int) by omega] at C2
        clear hx xb c1
        go_wp2_with fail
        refine C2.out.mono ?_
        rintro e w2 ⟨rfl, hX, _⟩
        have HX2 := hide hX
        clear hX C2
        go_wp2_with fail
        refine (HAW.out _).mono ?_
        rintro e w9 ⟨rfl, hb⟩
        have HF := hide (below_next HX2.out.2.2 hb)
        clear hb HAW HX2
        go_wp2
        go_ret
        exact ⟨rfl, HF.out⟩
      have hin : inP ⟨sqs i, K⟩ x = true := decide_eq_true (by show 0 ≤ x ∧ x < ((sqs i).length : Int); rw [sqs_len]; omega)
      obtain ⟨e1, e2, e3, e4⟩ := rcv_yes hin
      obtain ⟨j, hj, hjl, hF⟩ := in_yes hin
      have hfd : rcvF ⟨sqs i, K⟩ x = max j (i - K) := by rw [hF]; show max j ((sqs i).length - K) = _; rw [sqs_len]
      have hjl2 : j < i := by have h : j < (sqs i).length := hjl; rw [sqs_len] at h; exact h
      have hv : rcvV ⟨sqs i, K⟩ x = ((rcvF ⟨sqs i, K⟩ x : Nat) : Int) * ((rcvF ⟨sqs i, K⟩ x : Nat) : Int) := by rw [e1]; exact sqs_get (by omega)
      rw [hv, e2, e3, e4] at C2
      clear e1 e2 e3 e4 hin hjl hF hv
      generalize rcvF ⟨sqs i, K⟩ x = f at *
      have hsq := sq_small (j := f) (by omega)
      have HSQ := hide (fun (y : Int) (h : 0 ≤ y ∧ y ≤ 65025) => (show (y == wrap64 y) = true by rw [wrapS (by omega)]; simp))
      have b0 : ((bh : Int) == 0) = false := by simp; omega
      by_cases c3 : K < bh
      · have c3' : (K : Int) < (bh : Int) := by omega
        have ef : (f : Int) = x + ((bh : Int) - (K : Int)) := by omega
        rw [ef] at C2 hsq
        rw [show x + ((bh : Int) - (K : Int)) - x = (bh : Int) - (K : Int) by omega] at C2
        have HS := hide hsq
        clear ef hfd hjl2 hj c2
        go_wp2_with fail
        rw [← hx]
        clear hx
        refine C2.out.mono ?_
        rintro e w2 ⟨rfl, hX, _⟩
        have HX2 := hide hX
        clear hX C2
        go_wp2_with fail
        refine (HAW.out _).mono ?_
        rintro e w9 ⟨rfl, hb⟩
        have HF := hide (below_next HX2.out.2.2 hb)
        clear hb HAW HX2
        go_wp2
        go_ret
        exact ⟨by first | rfl | exact congrArg (fun b => Ending.returned (Value.bool b)) (HSQ.out _ HS.out), HF.out⟩
      · have c3' : ¬ (K : Int) < (bh : Int) := by omega
        have ef : (f : Int) = x := by omega
        rw [ef] at C2 hsq
        rw [Int.sub_self] at C2
        have HS := hide hsq
        clear ef hfd hjl2 hj c2
        go_wp2_with fail
        rw [← hx]
        clear hx
        refine C2.out.mono ?_
        rintro e w2 ⟨rfl, hX, _⟩
        have HX2 := hide hX
        clear hX C2
        go_wp2_with fail
        refine (HAW.out _).mono ?_
        rintro e w9 ⟨rfl, hb⟩
        have HF := hide (below_next HX2.out.2.2 hb)
        clear hb HAW HX2
        go_wp2
        go_ret
        exact ⟨by first | rfl | exact congrArg (fun b => Ending.returned (Value.bool b)) (HSQ.out _ HS.out), HF.out⟩

theorem keeps_any (z n b : Int) (hz : 0 ≤ z ∧ z ≤ 255) (hn : 0 ≤ n ∧ n ≤ 255) (hb : 0 ≤ b ∧ b ≤ 255) (w : World) : Calls Try.prog 5 #[.int .u8 z, .int .u8 n, .int .u8 b] w fun e w' => e = .returned (.bool true) ∧ Below w.heap.size w w' := by
  obtain ⟨n, rfl⟩ : ∃ m : Nat, n = (m : Int) := ⟨n.toNat, by omega⟩
  obtain ⟨b, rfl⟩ : ∃ m : Nat, b = (m : Int) := ⟨b.toNat, by omega⟩
  exact keeps_walk z hz n (by omega) b (by omega) w

end Go.Proofs.Ytkjiompjfolipaa
