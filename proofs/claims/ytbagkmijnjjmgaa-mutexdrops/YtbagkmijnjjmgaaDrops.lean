/-
  What the law MutexDrops asks comes out true at any two bytes.
-/
import Derived.Test.YtbagkmijnjjmgaaUp
import Derived.Deep.DeepCutAuto
namespace Go.Proofs.Ytbagkmijnjjmgaa
open Go.RowKit

set_option maxHeartbeats 4000000 in
theorem drops_walk (x y : Int) (hx : 0 ≤ x ∧ x ≤ 255) (hy : 0 ≤ y ∧ y ≤ 255) (w : World) : Calls Try.prog 6 #[.int .u8 x, .int .u8 y] w fun e w' => e = .returned (.bool true) ∧ Below w.heap.size w w' := by
  obtain ⟨m, hm, hm20, hm8, hm64⟩ := u8_mod hx 20 (by omega) (by omega)
  have hm' : x.tmod 20 = (m : Int) := hm
  clear hm
  have N0 := hide (new_any w)
  go_enter Try.func6, Try.ntmps6
  go_wp2_with fail
  refine N0.out.mono ?_
  rintro e w1 ⟨rfl, hA, hb⟩
  obtain ⟨M, hMe⟩ : ∃ M, M = w.heap.size := ⟨_, rfl⟩
  have HA : Hid (AtM w1 M w.heap.size (.slice none 0 0) []) := by rw [hMe]; exact hA
  have hl : w.heap.size ≤ M := by omega
  rw [← hMe]
  clear hA N0 hMe
  go_wp2_with fail
  clear hm'
  generalize hkk : 1 + (m : Int) = kk
  obtain ⟨K, rfl⟩ : ∃ K : Nat, kk = (K : Int) := ⟨m + 1, by omega⟩
  have hK : 1 ≤ K ∧ K ≤ 20 := by omega
  clear hkk hm20 hm8 hm64
  go_loopw [7] (fun i wr => ∃ k v, i = .int .i64 ((k : Nat) : Int) ∧ 1 ≤ k ∧ k ≤ K + 1 ∧ Hid (AtM wr M w.heap.size v (upZ 1 (k - 1))) ∧ Below w.heap.size w wr) (fun i _ => K + 1 - (intOf i).toNat)
  case atStart => exact ⟨1, _, rfl, by omega, by omega, HA, hb⟩
  case round =>
    clear HA hb
    obtain ⟨k, v, rfl, hk1, hkK, HA, hb⟩ := hrel
    by_cases hlt : k ≤ K
    · have hlt' : (k : Int) ≤ (K : Int) := by omega
      have L := lock_any M _ v (upZ 1 (k - 1)) (up_ok _) (by rw [up_len]; omega) (k : Int) wr HA.out hb.size
      rw [up_lock1 hk1] at L
      have HL := hide L
      clear L
      generalize lockE (upZ 1 (k - 1)) (k : Int) = E at *
      go_wp2_with fail
      refine HL.out.mono ?_
      rintro e w2 ⟨rfl, hN⟩
      have hst := hide (hN.step HA.out hl hb)
      clear hN HL HA hb
      go_wp2
      go_roundw
      case rel =>
        obtain ⟨⟨v', hA⟩, hb⟩ := hst.out
        exact ⟨k + 1, v', by go_num, by omega, by omega, hA, hb⟩
      case measure => simp [intOf]; omega
    · have hk : k - 1 = K := by omega
      rw [hk] at HA
      clear hk
      have hlt' : ¬ (k : Int) ≤ (K : Int) := by omega
      obtain ⟨q, hq, hqK⟩ := tmod_nat (n := y) hy.1 (show 0 < K by omega)
      have hy64 : wrap64 y = y := by unfold wrap64; omega
      have hK0 : ((K : Int) == 0) = false := by simp; omega
      go_wp2_with fail
      clear hq hy64 hK0
      generalize hxx : 1 + (q : Int) = xx
      obtain ⟨X, rfl⟩ : ∃ X : Nat, xx = (X : Int) := ⟨q + 1, by omega⟩
      have hX : 1 ≤ X ∧ X ≤ K := by omega
      clear hxx hqK hlt' hlt hk1 hkK
      obtain ⟨f1, f2, f3, f4⟩ := up_drop (K := K) (x := (X : Int)) (by omega) (by omega)
      have D1 := drop_any M _ v (upZ 1 K) (by rw [up_len]; omega) (up_ok K).tail.nd (X : Int) wr HA.out
      rw [f1, f2] at D1
      have D2 : Hid (∀ v W, AtM W M w.heap.size v (lft (X : Int) (upZ 1 K)) → Calls Try.prog 9 #[.pointer (some ⟨M, 0, none⟩), .int .i64 (X : Int)] W fun e w' => e = .returned (.bool false) ∧ NowM M w.heap.size v (lft (X : Int) (upZ 1 K)) W w') := hide fun v W h => by
        have := drop_any M _ v (lft (X : Int) (upZ 1 K)) (by have := lft_len (X : Int) (upZ 1 K); rw [up_len] at this; omega) (lft_ok (up_ok K)).tail.nd (X : Int) W h
        rw [f3, f4] at this
        exact this
      have HD1 := hide D1
      have e0 : Hid (lft (X : Int) (upZ 1 K) = restZ (X : Int) K 1) := rfl
      clear D1 f1 f2 f3 f4
      have hbx : (decide (1 < (X : Int)) != decide (1 < (X : Int))) = false := by simp
      refine HD1.out.mono ?_
      rintro e w3 ⟨rfl, hN⟩
      obtain ⟨⟨v3, hA3⟩, hb3⟩ := hN.step HA.out hl hb
      have HA3 := hide hA3
      clear hA3 hN HA hb HD1
      go_wp2_with fail
      refine (D2.out _ _ HA3.out).mono ?_
      rintro e w4 ⟨rfl, hN⟩
      obtain ⟨⟨v4, hA4⟩, hb4⟩ := hN.step HA3.out hl hb3
      rw [e0.out] at hA4
      have HA4 := hide hA4
      clear hA4 hN HA3 hb3 D2 e0
      go_wp2_with fail
      go_loopw [9] (fun i wr => ∃ k v, i = .int .i64 ((k : Nat) : Int) ∧ 1 ≤ k ∧ k ≤ K + 1 ∧ Hid (AtM wr M w.heap.size v (restZ (X : Int) K k)) ∧ Below w.heap.size w wr) (fun i _ => K + 1 - (intOf i).toNat)
      case atStart => exact ⟨1, _, rfl, by omega, by omega, HA4, hb4⟩
      case round =>
        clear HA4 hb4
        obtain ⟨k, v, rfl, hk1, hkK, HA, hb⟩ := hrel
        by_cases hlt : k ≤ K
        · have hlt' : (k : Int) ≤ (K : Int) := by omega
          by_cases hs : k = X ∧ 1 < X
          · have hs1 : ((k : Int) == (X : Int)) = true := by simp; omega
            have hs2 : 1 < (X : Int) := by omega
            rw [rest_skip hlt hs.1 hs.2] at HA
            clear hs
            go_wp2_with fail
            go_roundw
            case rel => exact ⟨k + 1, v, by go_num, by omega, by omega, HA, hb⟩
            case measure => simp [intOf]; omega
          · have hs1 : (((k : Int) == (X : Int)) = false) ∨ (((k : Int) == (X : Int)) = true ∧ ¬ 1 < (X : Int)) := by
              by_cases e : k = X
              · right; subst e; refine ⟨by simp, by omega⟩
              · left; simp; omega
            have r1 := rest_cons hlt hs
            obtain ⟨o1, o2⟩ := rest_ok (x := (X : Int)) (K := K) hk1 hK.2
            have H0 := holder_any M _ v (restZ (X : Int) K k) wr HA.out
            have U := unlock_any M _ v (restZ (X : Int) K k) o1 o2 (k : Int) wr HA.out
            have e1 : hold (restZ (X : Int) K k) = (k : Int) := by rw [r1]; rfl
            have e2 : unL (restZ (X : Int) K k) (k : Int) = restZ (X : Int) K (k + 1) ∧ unE (restZ (X : Int) K k) (k : Int) = 0 := by rw [r1]; exact cons_un (by omega) _
            rw [e1] at H0
            rw [e2.1, e2.2] at U
            have HH := hide H0
            have HU := hide U
            have hkk : ((k : Int) != (k : Int)) = false := by simp
            clear H0 U e1 e2 o1 o2 r1 hs
            generalize unN (restZ (X : Int) K k) (k : Int) = E at *
            rcases hs1 with hs1 | ⟨hs1, hs2⟩
            · go_wp2_with fail
              refine HH.out.mono ?_
              rintro e w5 ⟨rfl, hw5⟩
              subst hw5
              go_wp2_with fail
              refine HU.out.mono ?_
              rintro e w6 ⟨rfl, hN⟩
              have hst := hide (hN.step HA.out hl hb)
              clear hN HU HH HA hb
              go_wp2_with fail
              go_roundw
              case rel =>
                obtain ⟨⟨v', hA⟩, hb⟩ := hst.out
                exact ⟨k + 1, v', by go_num, by omega, by omega, hA, hb⟩
              case measure => simp [intOf]; omega
            · go_wp2_with fail
              refine HH.out.mono ?_
              rintro e w5 ⟨rfl, hw5⟩
              subst hw5
              go_wp2_with fail
              refine HU.out.mono ?_
              rintro e w6 ⟨rfl, hN⟩
              have hst := hide (hN.step HA.out hl hb)
              clear hN HU HH HA hb
              go_wp2_with fail
              go_roundw
              case rel =>
                obtain ⟨⟨v', hA⟩, hb⟩ := hst.out
                exact ⟨k + 1, v', by go_num, by omega, by omega, hA, hb⟩
              case measure => simp [intOf]; omega
        · have hlt' : ¬ (k : Int) ≤ (K : Int) := by omega
          rw [rest_end (by omega)] at HA
          go_wp2_with fail
          refine (awake_any _).mono ?_
          rintro e w5 ⟨rfl, hb5⟩
          replace HA := hide (HA.out.below hb5)
          replace hb := below_next hb hb5
          clear hb5
          go_wp2_with fail
          refine (holder_any M _ v [] _ HA.out).mono ?_
          rintro e w6 ⟨rfl, hw6⟩
          subst hw6
          rw [hold_nil]
          go_wp2_with fail
          refine (waits_any M _ v [] (by simp) _ HA.out).mono ?_
          rintro e w7 ⟨u, rfl, hu, hb7⟩
          obtain ⟨ua, uc, rfl⟩ := owns_slice hu
          replace hb := below_next hb hb7
          clear hb7 hu HA
          go_wp2
          go_ret
          exact ⟨rfl, hb⟩

end Go.Proofs.Ytbagkmijnjjmgaa
