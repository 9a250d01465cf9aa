/-
  The walk of the law ArenaPlays.
-/
import Derived.Test.YtceghlmleamlgaaPlays
import Derived.Deep.DeepCutAuto
namespace Go.Proofs.Ytceghlmleamlgaa
open Go.RowKit

/-- What holds at each round's head. -/
def PlaysAt (w : World) (base B P R k : Nat) (gv : Value) (wr : World) : Prop :=
  ∃ s r v1 v2 v3 gs, Fit k s ∧ Sim s r ∧ r.back.length ≤ k ∧ PSt wr base B P R s r v1 v2 v3 gv gs ∧ gs.length ≤ k ∧ (∀ j, j < gs.length → gs_ gs j ≤ 100000) ∧ Below w.heap.size w wr

theorem takeH_nat {K : Nat} {s : Ar} (hf : Fit K s) (hK : K ≤ 1000) : ∃ H : Nat, takeH s = (H : Int) ∧ H ≤ 100000 := by
  unfold takeH
  split
  · exact ⟨0, rfl, by omega⟩
  · refine ⟨_, rfl, ?_⟩
    have := hf.n16
    have := hf.nx
    have := hf.backs s.nx (by omega)
    unfold hd
    omega
theorem tmod_len {n : Int} {l : Nat} (h : 0 ≤ n) (hl : 0 < l) : ∃ k : Nat, n.tmod (l : Int) = (k : Int) ∧ k < l := by
  rw [Int.tmod_eq_emod_of_nonneg h]
  have h1 := Int.emod_nonneg n (show (l : Int) ≠ 0 by omega)
  have h2 := Int.emod_lt_of_pos n (show (0 : Int) < l by omega)
  exact ⟨(n % (l : Int)).toNat, by omega, by omega⟩
theorem gs_app_le {gs : List Nat} {H : Nat} (h : ∀ j, j < gs.length → gs_ gs j ≤ 100000) (hH : H ≤ 100000) : ∀ j, j < (gs ++ [H]).length → gs_ (gs ++ [H]) j ≤ 100000 := by
  intro j hj
  by_cases e : j = gs.length
  · subst e; rw [gs_snoc]; exact hH
  · have : j < gs.length := by simp at hj; omega
    rw [gs_old _ _ this]; exact h j this

set_option maxHeartbeats 8000000 in
set_option maxRecDepth 100000 in
theorem arenaPlays_walk (most : Int) (ad : Option Addr) (len cap : Nat) (hcap : len ≤ cap) (hmax : cap ≤ maxLen) (w : World) (hact : Acts w ad len) :
    Calls Try.prog 3 #[.int .i64 most, .slice ad len cap] w fun e w' => e = .returned (.bool true) ∧ Below w.heap.size w w' := by
  obtain ⟨i3, hi, hz0, hz1, hz2⟩ := info_parts info3
  have hlen63 : len ≤ 9223372036854775807 := by unfold maxLen at hmax; omega
  clear hmax
  have HAC := hide hact
  clear hact
  go_enter Try.func3, Try.ntmps3
  go_wp2_with fail
  refine (new_any most _).mono ?_
  rintro e w1 ⟨rfl, hA, hb⟩
  obtain ⟨B, hB⟩ : ∃ B, B = w.heap.size + 1 := ⟨_, rfl⟩
  obtain ⟨P, hP⟩ : ∃ P, P = w.heap.size := ⟨_, rfl⟩
  rw [← hB] at hA ⊢
  have HA : Hid (AtA w1 B P (newOf (newN most))) := by rw [hP]; exact hA
  have hBl : w.heap.size ≤ B := by omega
  have hPl : w.heap.size ≤ P := by omega
  have hz1' := hb.size
  clear hA hB hP
  go_wp2_with fail
  refine (refNew_sim most _).mono ?_
  rintro e w2 ⟨rfl, ⟨v1, v2, hR⟩, hb2⟩
  obtain ⟨R, hRe⟩ : ∃ R, R = w1.heap.size := ⟨_, rfl⟩
  rw [← hRe] at hR ⊢
  have HR : Hid (AtR w2 R R v1 v2 (.slice none 0 0) (rf0 (newN most))) := hR
  have hA2 := HA.out.below hb2
  have HA2 := hide hA2
  have hRl : w.heap.size ≤ R := by omega
  have hb3 := below_next hb hb2
  have hRw : R ≤ w2.heap.size := by have := hb2.size; omega
  clear hA2 HA hR hb hb2 hRe hz1'
  go_wp2
  go_loopw [7, 8] (fun gv i wr => ∃ k : Nat, k ≤ len ∧ k ≤ 80 ∧ i = .int .i64 k ∧ PlaysAt w R B P R k gv wr) (fun _ i _ => len - (intOf i).toNat)
  case atStart =>
    refine ⟨0, Nat.zero_le _, Nat.zero_le _, rfl, newOf (newN most), rf0 (newN most), v1, v2, .slice none 0 0, [], newOf_fit (by unfold newN; omega), sim_new (by unfold newN; omega), Nat.le_refl _, ⟨?_, ?_, ?_, ?_⟩, Nat.le_refl _, fun j hj => by simp at hj, ?_⟩
    · exact HA2.out.below ((Below.refl _ _).alloc (Nat.le_refl _) _)
    · exact HR.out.below ((Below.refl _ _).alloc (Nat.le_refl _) _)
    · exact World.ownsRow_lit w2 #[] 0 hRw (by unfold maxLen; omega) rfl
    · intro j hj hm
      have := Option.some.inj (show some w2.heap.size = some j from hj)
      have := HR.out.mine_lt hm
      omega
    · exact hb3.alloc hb3.size _
  case round =>
    clear HA2 HR hb3 hRw
    obtain ⟨k, hk, hk80, rfl, s, r, v1, v2, v3, gs, hF, hSim, hbk, hS, hgl, hgs, hb⟩ := hrel
    by_cases hlt : k < len ∧ k < 80
    · obtain ⟨hk1, hk2⟩ := hlt
      have hk1' : (k : Int) < (len : Int) := by omega
      have hk2' : (k : Int) < 80 := by omega
      obtain ⟨b, off, d, h, nn, rfl, hbw, q0, q1, q2, hd255, hh64, hn255⟩ := HAC.out k hk1
      have c0 : wr.cell? ⟨b, off + k * 3, none⟩ = some (.int .u8 d) := (hb.cell (p := ⟨b, _, none⟩) hbw).trans q0
      have c1 : wr.cell? ⟨b, off + k * 3 + 1, none⟩ = some (.int .i64 h) := (hb.cell (p := ⟨b, _, none⟩) hbw).trans q1
      have c2 : wr.cell? ⟨b, off + k * 3 + 2, none⟩ = some (.int .u8 nn) := (hb.cell (p := ⟨b, _, none⟩) hbw).trans q2
      obtain ⟨av, ac, hgv⟩ := owns_slice hS.g
      subst hgv
      have hzr := hb.size
      have HS := hide hS
      have HSim := hide hSim
      have HF := hide hF
      have HGS := hide hgs
      clear hS hSim hF q0 q1 q2 hgs
      obtain ⟨r3, hr3⟩ : ∃ r3 : Int, d.tmod 3 = r3 := ⟨_, rfl⟩
      go_upto_if 37 with fail
      have hW1 : Below wr.heap.size wr (wr.alloc (.cells #[.int .u8 d, .int .i64 h, .int .u8 nn] 29)) := (Below.refl _ _).alloc (Nat.le_refl _) _
      have x0 : (wr.alloc (.cells #[.int .u8 d, .int .i64 h, .int .u8 nn] 29)).cell? ⟨wr.heap.size, 0, none⟩ = some (.int .u8 d) := by simp [go_sem]
      have x1 : (wr.alloc (.cells #[.int .u8 d, .int .i64 h, .int .u8 nn] 29)).cell? ⟨wr.heap.size, 1, none⟩ = some (.int .i64 h) := by simp [go_sem]
      have x2 : (wr.alloc (.cells #[.int .u8 d, .int .i64 h, .int .u8 nn] 29)).cell? ⟨wr.heap.size, 2, none⟩ = some (.int .u8 nn) := by simp [go_sem]
      generalize wr.alloc (.cells #[.int .u8 d, .int .i64 h, .int .u8 nn] 29) = W1 at *
      have HS1 := hide (HS.out.below hW1)
      replace hb := below_next hb hW1
      clear HS hW1 c0 c1 c2 hzr
      have hzr := hb.size
      go_cut [7] (fun v7 wx => PlaysAt w R B P R (k + 1) v7 wx)
      case first =>
        by_cases hr0 : r3 = 0
        · as_aux_lemma =>
            have hr1 : (r3 == 0) = true := by simp [hr0]
            clear hr0
            obtain ⟨H, hH, hHs⟩ := takeH_nat HF.out (by omega)
            have T1 := fun W hA => take_any B P k s (by omega) W HF.out hA
            have T2 := fun (W : World) (hR : AtR W R R v1 v2 v3 r) => refTake_sim HSim.out HF.out (by omega) (by omega) hR
            rw [hH] at T1 T2
            generalize takeB s = tb at T1 T2
            have HT1 := hide T1
            have HT2 := hide T2
            clear T1 T2 hH x0 x1 x2
            have hHH : ((H : Int) != (H : Int)) = false := by simp
            have htt : (tb != tb) = false := by cases tb <;> rfl
            go_wp2_with fail
            refine (HT1.out _ HS1.out.a).mono ?_
            rintro e w3 ⟨rfl, hN⟩
            have HS2 := hide (HS1.out.nowA hN)
            replace hb := turn_next hb hN.2 hBl hPl
            clear hN HS1 HT1
            go_wp2_with fail
            refine (HT2.out _ HS2.out.r).mono ?_
            rintro e w4 ⟨rfl, r', hSim', hbk', hNR⟩
            obtain ⟨⟨v3', hS3⟩, hB3⟩ := HS2.out.nowR (Nat.le_refl _) hNR
            replace hb := hb.trans (hB3.mono hRl)
            have HSim' := hide hSim'
            have hz4 := hb.size
            have hR4 := hS3.r.lt
            clear hNR HS2 HT2 hSim' hB3
            go_wp2_with (at_builtin; refine wpList_append_own_at _ rfl _ _ 27 rfl R 3 i3 (.int .i64 0) 1 8 Try.underlying27 hi hz0 hz1 hz2 rfl (by decide) _ _ _ rfl (hS3.g.alloc _) ⟨w4.heap.size, 0, none⟩ 1 1 [.int .i64 (H : Int)] rfl rfl (news_int (by simp [go_sem])) (ones_it _) (by unfold maxLen; omega) (by omega) (by simp; omega) ?_)
            intro v7 w5 hown5 hgrow5 _ hat5
            have hS4 := hS3.app hown5 hgrow5 (by simpa using hat5)
            replace hb := below_owns hb hz4 hS3.g hRl hgrow5
            clear hown5 hgrow5 hS3
            go_wp2_with fail
            go_meet
            exact ⟨takeOf s, r', v1, v2, v3', gs ++ [H], (takeOf_fit HF.out).mono (by omega), HSim'.out, by omega, hS4, by simp; omega, gs_app_le HGS.out hHs, hb⟩
        · as_aux_lemma =>
            have hr1 : (r3 == 0) = false := by simp [hr0]
            clear hr0
            go_upto_region 14 with fail
            go_cut [70] (fun c wx => ∃ bb : Bool, c = .bool bb ∧ (bb = true → 0 < gs.length) ∧ wx = W1)
            case first =>
              by_cases hq : r3 = 1
              · have hq1 : (r3 == 1) = true := by simp [hq]
                clear hq
                by_cases hg0 : 0 < gs.length
                · have hg1 : (0 : Int) < (gs.length : Int) := by omega
                  go_wp2_with fail
                  go_meet
                  exact ⟨_, rfl, fun _ => hg0, rfl⟩
                · have hg1 : ¬ (0 : Int) < (gs.length : Int) := by omega
                  go_wp2_with fail
                  go_meet
                  exact ⟨_, rfl, fun h => by simp at h, rfl⟩
              · have hq1 : (r3 == 1) = false := by simp [hq]
                clear hq
                go_wp2_with fail
                go_meet
                exact ⟨_, rfl, fun h => by simp at h, rfl⟩
            case rest =>
              obtain ⟨bb, rfl, hbb, hwc⟩ := hcut
              subst hwc
              go_upto_if 70 with fail
              go_cut [14] (fun c wx => ∃ hv : Int, c = .int .i64 hv ∧ (-9223372036854775808 ≤ hv ∧ hv ≤ 9223372036854775807) ∧ wx = wc)
              case first =>
                cases bb
                · go_wp2_with fail
                  go_meet
                  exact ⟨h, rfl, hh64, rfl⟩
                · have hg0 := hbb rfl
                  have hgne : ((gs.length : Int) == 0) = false := beq_eq_false_iff_ne.2 (by omega)
                  obtain ⟨kk, hkk, hkl⟩ := tmod_len hn255.1 hg0
                  have hw64n : wrap64 nn = nn := by unfold wrap64; omega
                  obtain ⟨g1, cc, hv, _, _, hcell, _⟩ := row_open HS1.out.g hg0
                  simp only [Value.slice.injEq, true_and] at hv
                  obtain ⟨rfl, rfl⟩ := hv
                  obtain ⟨e1, _⟩ := hcell kk hkl
                  have hsm := HGS.out kk hkl
                  have hi1 : (kk : Int) < (gs.length : Int) := by omega
                  have hi0 : (0 : Int) ≤ (kk : Int) := by omega
                  clear hcell
                  generalize gs_ gs kk = X at *
                  go_wp2_with fail
                  go_meet
                  exact ⟨(X : Int), rfl, by omega, rfl⟩
              case rest =>
                clear x0 x1 x2
                obtain ⟨hv, rfl, hv64, hwc⟩ := hcut
                subst hwc
                have P1 := fun W hA => place_any B P k s hv hv64.2 (by omega) W HF.out hA
                have P2 := fun (W : World) (hR : AtR W R R v1 v2 v3 r) => refPlace_any R R v1 v2 v3 r hv (by rw [HSim.out.nl]; exact HSim.out.n16) W hR
                have I1 := fun W hA => is_any B P k s hv hv64.2 (by omega) W HF.out hA
                have F1 := fun W hA => free_any B P k s hv hv64.2 (by omega) W HF.out hA
                have F2 := fun (W : World) (hR : AtR W R R v1 v2 v3 r) (hl : R ≤ W.heap.size) => refFree_sim HSim.out HF.out (by omega) (by omega) hR hl hv
                have hge := place_ge s hv
                rw [← HSim.out.place hv] at P2
                generalize placeOf s hv = pl at P1 P2 hge
                generalize isB s hv = ib at I1 F1 F2 hge
                have HP1 := hide P1
                have HP2 := hide P2
                have HI1 := hide I1
                have HF1 := hide F1
                have HF2 := hide F2
                clear P1 P2 I1 F1 F2
                have hpp : (pl != pl) = false := by simp
                cases ib
                all_goals
                  go_wp2_with fail
                  refine (HP1.out _ HS1.out.a).mono ?_
                  rintro e w3 ⟨rfl, hw3⟩
                  subst hw3
                  go_wp2_with fail
                  refine (HP2.out _ HS1.out.r).mono ?_
                  rintro e w4 ⟨rfl, hw4⟩
                  subst hw4
                  go_wp2_with fail
                  refine (HI1.out _ HS1.out.a).mono ?_
                  rintro e w5 ⟨rfl, hw5⟩
                  subst hw5
                  go_wp2_with fail
                  refine (HP2.out _ HS1.out.r).mono ?_
                  rintro e w6 ⟨rfl, hw6⟩
                  subst hw6
                  go_wp2_with fail
                  refine (HF1.out _ HS1.out.a).mono ?_
                  rintro e w7 ⟨rfl, hN⟩
                  have HS2 := hide (HS1.out.nowA hN)
                  replace hb := turn_next hb hN.2 hBl hPl
                  clear hN
                  go_wp2_with fail
                  refine (HF2.out _ HS2.out.r (Nat.le_of_lt HS2.out.r.lt)).mono ?_
                  rintro e w8 ⟨rfl, r', hSim', hbk', hNR⟩
                  obtain ⟨⟨v3', hS3⟩, hB3⟩ := HS2.out.nowR (Nat.le_refl _) hNR
                  replace hb := hb.trans (hB3.mono hRl)
                  have HSim' := hide hSim'
                  have HS3 := hide hS3
                  clear hNR HS2 hSim' hB3 hS3
                  go_wp2_with fail
                  go_meet
                  exact ⟨freeOf s hv, r', v1, v2, v3', gs, freeOf_fit HF.out hv, HSim'.out, by omega, HS3.out, by omega, HGS.out, hb⟩
      case rest =>
        clear x0 x1 x2 HS1 HSim HF HGS hbk hgl hb hzr
        obtain ⟨s', r', v1', v2', v3', gs', hF, hSim, hbk, hS, hgl, hgs, hb⟩ := hcut
        have L1 := fun W hA => live_any B P (k + 1) s' (by omega) W hF hA
        have L2 := fun (W : World) (hR : AtR W R R v1' v2' v3' r') => refLive_any R R v1' v2' v3' r' (by rw [hSim.nl]; exact hSim.n16) W hR
        rw [hSim.nl, ← hSim.live s'.n (Nat.le_refl _)] at L2
        have hll : (liveTo s' s'.n).length ≤ 100 := by have := liveTo_len s' s'.n; have := hSim.n16; omega
        generalize liveTo s' s'.n = L at L1 L2 hll
        have HL1 := hide L1
        have HL2 := hide L2
        have HS := hide hS
        have HSim := hide hSim
        have HF := hide hF
        have HGS := hide hgs
        clear L1 L2 hS hSim hF hgs
        go_wp2_with fail
        refine (HL1.out _ HS.out.a).mono ?_
        rintro e w3 ⟨u3, rfl, ho3, hb3⟩
        have HS3 := hide (HS.out.below hb3)
        replace hb := below_next hb hb3
        obtain ⟨a3, k3, rfl⟩ := owns_slice ho3
        have HO3 := hide ho3
        clear HS hb3 ho3
        go_wp2_with fail
        refine (HL2.out _ HS3.out.r).mono ?_
        rintro e w4 ⟨u4, rfl, ho4, hb4⟩
        have HS4 := hide (HS3.out.below hb4)
        replace hb := below_next hb hb4
        obtain ⟨a4, k4, rfl⟩ := owns_slice ho4
        have HO4 := hide ho4
        have HO3' := hide (owns_below HO3.out hb4)
        clear HS3 hb4 ho4
        go_wp2_with fail
        refine (ints_same a3 a4 k3 k4 _ _ L w4 hll HO3'.out HO4.out).mono ?_
        rintro e w5 ⟨rfl, hb5⟩
        have HS5 := hide (HS4.out.below hb5)
        replace hb := below_next hb hb5
        clear HS4 hb5 HO3 HO4 HO3'
        go_wp2
        go_roundw
        case rel => exact ⟨k + 1, by omega, by omega, by go_num, s', r', v1', v2', v3', gs', HF.out, HSim.out, hbk, HS5.out, hgl, HGS.out, hb⟩
        case measure => simp [intOf]; omega
    · by_cases hk1 : k < len
      all_goals
        have hk1' := hk1
        go_wp2_with fail
        refine (awake_any _).mono ?_
        rintro e w2 ⟨rfl, hb2⟩
        replace hb := below_next hb hb2
        go_wp2
        go_ret
        exact ⟨rfl, hb⟩

end Go.Proofs.Ytceghlmleamlgaa
