/-
  The walk of the law SchedTurns: tasks that yield come round.
-/
import Derived.Test.YtngaecfainhjcaaSTurnsM
namespace Go.Proofs.Ytngaecfainhjcaa
open Go.RowKit A

set_option maxHeartbeats 4000000 in
theorem schedTurns_walk (n rounds : Int) (hn : 0 ≤ n ∧ n ≤ 255) (hr : 0 ≤ rounds ∧ rounds ≤ 255) (w : World) : Calls Try.prog 5 #[.int .u8 n, .int .u8 rounds] w fun e w' => e = .returned (.bool true) ∧ Below w.heap.size w w' := by
  obtain ⟨m, hm, hm8, hmw, hm64⟩ := u8_mod hn 8 (by omega) (by omega)
  obtain ⟨M, hM, hM40, hMw, hM64⟩ := u8_mod hr 40 (by omega) (by omega)
  have HM1 : Hid (n.tmod 8 = (m : Int)) := hm
  have HM2 : Hid (rounds.tmod 40 = (M : Int)) := hM
  have N0 := hide (snew_any 8 w)
  have h1m : IntKind.i64.wrap (1 + (m : Int)) = ((m + 1 : Nat) : Int) := by rw [wrapB (by omega)]; omega
  clear hm hM hn hr
  go_enter Try.func5, Try.ntmps5
  go_wp2_with fail
  refine N0.out.mono ?_
  rintro e w1 ⟨S, B, P, v, rfl, hl, hA, hb⟩
  have HA := hide hA
  clear hA N0
  go_wp2
  go_loopw [6] (fun i wr => ∃ k : Nat, k ≤ m ∧ i = .int .i64 k ∧ (∃ v, AtS wr S B P w.heap.size v (sp k)) ∧ Below w.heap.size w wr) (fun i _ => m - (intOf i).toNat)
  case atStart => exact ⟨0, Nat.zero_le _, rfl, ⟨v, HA.out⟩, hb⟩
  case round =>
    clear HA hb
    obtain ⟨k, hk, rfl, ⟨v, hA⟩, hb⟩ := hrel
    have HA := hide hA
    clear hA
    by_cases hlt : k < m
    · have hlt' : (k : Int) < (m : Int) := by omega
      have T := spawn_any S B P _ 0 v (sp k) (by have := (sp_ok k).len8; omega) (by omega) (sp_ok k).fit wr HA.out hb.size
      rw [sp_take k (by omega)] at T
      have e : spawnOf (sp k) = sp (k + 1) := rfl
      rw [e] at T
      have HT := hide T
      clear T e
      generalize takeH (sp k).a = H at *
      have hm' := HM1.out
      go_wp2_with fail
      clear hm'
      refine HT.out.mono ?_
      rintro e w3 ⟨rfl, hN⟩
      have hst := hide (hN.step HA.out hl hb)
      clear hN HT HA hb
      go_wp2
      go_roundw
      case rel => exact ⟨k + 1, by omega, by go_num, hst.out.1, hst.out.2⟩
      case measure => simp [intOf]; omega
    · obtain rfl : k = m := by omega
      have hok := sp_ok k
      have hlen := sp_len (k := k) (by omega)
      have R := run_any S B P _ v (sp k) (by have := hok.len8; omega) wr HA.out
      have HR := hide R
      obtain ⟨s, hs⟩ : ∃ s, s = sp k := ⟨_, rfl⟩
      rw [← hs] at HR HA hok hlen
      clear R hs
      obtain ⟨a, l⟩ := s
      have HLen : Hid (l.length = k + 1) := hlen
      have HOk := hide hok
      clear hlen hok
      have hm' := HM1.out
      go_wp2_with fail
      clear hm'
      refine HR.out.mono ?_
      rintro e w3 ⟨r, rfl, ho, hb3⟩
      obtain ⟨ar, cr, hrv⟩ := owns_slice ho
      subst hrv
      have HS := hide (HA.out.beside ho hb3 hb.size)
      replace hb := below_next hb hb3
      clear ho hb3 HA HR
      go_wp2
      go_loopw [10] (fun i wr => ∃ q : Nat, q ≤ M ∧ i = .int .i64 q ∧ Okc 0 ⟨a, rot l q⟩ ∧ (∃ v, Sd wr S B P w.heap.size v ⟨a, rot l q⟩ (.slice ar l.length cr) l) ∧ Below w.heap.size w wr) (fun i _ => M - (intOf i).toNat)
      case atStart => exact ⟨0, Nat.zero_le _, rfl, by rw [rot_zero]; exact HOk.out, ⟨v, by rw [rot_zero]; exact HS.out⟩, hb⟩
      case round =>
        clear HS hb
        obtain ⟨q, hq, rfl, hok, ⟨v, hS⟩, hb⟩ := hrel
        have HS := hide hS
        clear hS
        by_cases hlt2 : q < M
        · have hlt2' : (q : Int) < (M : Int) := by omega
          have hl0 : 0 < l.length := by rw [HLen.out]; omega
          obtain ⟨e1, e2, e3, e4⟩ := rot_yield hl0 q hok
          obtain ⟨g, c, hv, _, _, hcell, _⟩ := row_open HS.out.ro hl0
          simp only [Value.slice.injEq, true_and] at hv
          obtain ⟨rfl, rfl⟩ := hv
          obtain ⟨j, hj, hjl⟩ := tmod_len (n := (q : Int)) (by omega) hl0
          have hjq : q % l.length = j := by
            have hj' := hj
            clear hj
            rw [Int.tmod_eq_emod_of_nonneg (by omega)] at hj'
            omega
          rw [hjq] at e1 e3 e4
          obtain ⟨q0, _⟩ := hcell j hjl
          have hgne : ((l.length : Int) == 0) = false := beq_eq_false_iff_ne.2 (by omega)
          have b1 : (j : Int) < (l.length : Int) := by omega
          have b0 : (0 : Int) ≤ (j : Int) := by omega
          have HJ := hide hj
          clear hj
          have Pk := pick_any S B P _ v ⟨a, rot l q⟩ (by have := hok.len8; omega) 0 (by omega) wr HS.out.s
          have Yd := yield_any S B P _ 0 v ⟨a, rot l q⟩ (by omega) hok ((gs_ l j : Nat) : Int) (by
            have hm2 : gs_ l j ∈ rot l q := by
              obtain ⟨z, hz, ez⟩ := inB_true.1 e3
              have : z = gs_ l j := by omega
              exact this ▸ hz
            exact hits_le (hok.live _ hm2) hok.fit (by omega)) wr HS.out.s hb.size
          rw [e1, e2] at Pk
          rw [e3, e4] at Yd
          have hok2 := hok.yield ((gs_ l j : Nat) : Int)
          rw [e4] at hok2
          have HPk := hide Pk
          have HYd := hide Yd
          have HOk2 := hide hok2
          clear Pk Yd hok2 e1 e2 e3 e4 hcell hok hjq
          generalize gs_ l j = X at *
          have hXX : ((X : Int) != (X : Int)) = false := by simp
          have hM' := HM2.out
          go_wp2_with fail
          clear hM'
          refine HPk.out.mono ?_
          rintro e w4 ⟨rfl, hw4⟩
          subst hw4
          have hj := HJ.out
          go_wp2_with fail
          clear hj
          refine HYd.out.mono ?_
          rintro e w5 ⟨rfl, hN⟩
          have hst := hide (hN.step HS.out.s hl hb)
          have HS2 := hide (HS.out.now hN)
          clear hN HPk HYd HS hb
          go_wp2
          go_roundw
          case rel => exact ⟨q + 1, by omega, by go_num, HOk2.out, HS2.out, hst.out.2⟩
          case measure => simp [intOf]; omega
        · have hM' := HM2.out
          go_wp2_with fail
          clear hM'
          refine (sawake_any _).mono ?_
          rintro e w4 ⟨rfl, hb4⟩
          have hb5 := hide (below_next hb hb4)
          have hlen : (l.length : Int) = ((k + 1 : Nat) : Int) := by rw [HLen.out]
          have hm' := HM1.out
          clear hb hb4
          go_wp2
          go_ret
          refine ⟨?_, hb5.out⟩
          simp

end Go.Proofs.Ytngaecfainhjcaa
