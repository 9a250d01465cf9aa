/-
  The walk of the law SchedWaits: who can not run is not picked till it is ready.
-/
import Derived.Test.YtngaecfainhjcaaSWaitsM
namespace Go.Proofs.Ytngaecfainhjcaa
open Go.RowKit A

theorem yield_out {a : Ar} {R : List Nat} {t : Int} (h : inB R t = false) : yieldOf ⟨a, R⟩ t = ⟨a, R⟩ := yield_no h
theorem block_out {a : Ar} {R : List Nat} {t : Int} (h : inB R t = false) : blockOf ⟨a, R⟩ t = ⟨a, R⟩ := by show (⟨a, rmOf R t⟩ : Sc) = _; rw [rm_none h]

set_option maxHeartbeats 8000000 in
set_option maxRecDepth 100000 in
theorem schedWaits_walk (n x : Int) (ex : Bool) (hn : 0 ≤ n ∧ n ≤ 255) (hx : 0 ≤ x ∧ x ≤ 255) (w : World) : Calls Try.prog 6 #[.int .u8 n, .int .u8 x, .bool ex] w fun e w' => e = .returned (.bool true) ∧ Below w.heap.size w w' := by
  obtain ⟨i3, hi, hz0, hz1, hz2⟩ := info_parts info3
  obtain ⟨m, hm, hm8, hmw, hm64⟩ := u8_mod hn 8 (by omega) (by omega)
  have HM1 : Hid (n.tmod 8 = (m : Int)) := hm
  have N0 := hide (snew_any 8 w)
  have HX64 : Hid (wrap64 x = x) := by show wrap64 x = x; unfold wrap64; omega
  have hx0 := hx.1
  clear hm hn hx
  go_enter Try.func6, Try.ntmps6
  go_wp2_with fail
  refine N0.out.mono ?_
  rintro e w1 ⟨S, B, P, v, rfl, hl, hA, hb⟩
  have HA := hide hA
  clear hA N0
  go_wp2
  go_loopw [8] (fun i wr => ∃ k : Nat, k ≤ m ∧ i = .int .i64 k ∧ (∃ v, AtS wr S B P w.heap.size v (sp k)) ∧ Below w.heap.size w wr) (fun i _ => m - (intOf i).toNat)
  case atStart => exact ⟨0, Nat.zero_le _, rfl, ⟨v, HA.out⟩, hb⟩
  case round =>
    clear HA hb
    obtain ⟨k, hk, rfl, ⟨v, hA⟩, hb⟩ := hrel
    have HA := hide hA
    clear hA
    by_cases hlt : k < m
    · have hlt' : (k : Int) < (m : Int) := by omega
      have T := spawn_any S B P _ 0 v (sp k) (by have := (sp_ok k).len8; omega) (by omega) (sp_ok k).fit wr HA.out hb.size
      have e : spawnOf (sp k) = sp (k + 1) := rfl
      rw [e] at T
      have HT := hide T
      clear T e
      generalize takeH (sp k).a = H at *
      generalize takeB (sp k).a = tb at *
      have hm' := HM1.out
      go_wp2_with fail
      clear hm'
      refine HT.out.mono ?_
      rintro e w3 ⟨rfl, hN⟩
      have hst := hide (hN.step HA.out hl hb)
      clear hN HT HA hb
      go_wp2
      go_roundw
      case rel => exact ⟨k + 1, by omega, by go_num, hst.out.1, hst.out.2⟩
      case measure => simp [intOf]; omega
    · obtain rfl : k = m := by omega
      have hok := sp_ok k
      have hlen := sp_len (k := k) (by omega)
      have R := run_any S B P _ v (sp k) (by have := hok.len8; omega) wr HA.out
      have HR := hide R
      obtain ⟨s, hs⟩ : ∃ s, s = sp k := ⟨_, rfl⟩
      rw [← hs] at HR HA hok hlen
      clear R hs
      obtain ⟨a, l⟩ := s
      have hl0 : 0 < l.length := by rw [show l.length = k + 1 from hlen]; omega
      have hl8 : l.length ≤ 8 := hok.len8
      have HOk := hide hok
      clear hlen hok
      have hm' := HM1.out
      go_wp2_with fail
      clear hm'
      refine HR.out.mono ?_
      rintro e w3 ⟨r, rfl, ho, hb3⟩
      obtain ⟨ar, cr, hrv⟩ := owns_slice ho
      subst hrv
      have HS := hide (HA.out.beside ho hb3 hb.size)
      replace hb := below_next hb hb3
      clear ho hb3 HA HR
      obtain ⟨g, c, hv, _, _, hcell, _⟩ := row_open HS.out.ro hl0
      simp only [Value.slice.injEq, true_and] at hv
      obtain ⟨rfl, rfl⟩ := hv
      obtain ⟨j, hj, hjl⟩ := tmod_len hx0 hl0
      obtain ⟨q0, _⟩ := hcell j hjl
      have hgne : ((l.length : Int) == 0) = false := beq_eq_false_iff_ne.2 (by omega)
      have b1 : (j : Int) < (l.length : Int) := by omega
      have b0 : (0 : Int) ≤ (j : Int) := by omega
      have hXm : gs_ l j ∈ l := gs_mem hjl
      clear hcell
      generalize gs_ l j = X at *
      have hx64 := HX64.out
      go_wp2
      clear hx64 hj
      go_loopw [11, 12] (fun q i wr => ∃ p : Nat, p ≤ l.length ∧ i = .int .i64 p ∧ wr.ownsRow w3.heap.size 3 1 q (rmOf (l.take p) (X : Int)).length (cI (rmOf (l.take p) (X : Int))) ∧ Below w3.heap.size w3 wr) (fun _ i _ => l.length - (intOf i).toNat)
      case atStart => exact ⟨0, Nat.zero_le _, rfl, World.ownsRow_lit w3 #[] 0 (Nat.le_refl _) (by unfold maxLen; omega) rfl, (Below.refl _ _).alloc (Nat.le_refl _) _⟩
      case round =>
        clear q0 b0 b1
        obtain ⟨p, hp, rfl, hq, hnx⟩ := hrel
        have hz := hnx.size
        by_cases hlp : p < l.length
        · obtain ⟨g2, c2, hv2, _, _, hcell, _⟩ := row_open (owns_below HS.out.ro hnx) hl0
          simp only [Value.slice.injEq, true_and] at hv2
          obtain ⟨hv2a, rfl⟩ := hv2
          obtain rfl : g = g2 := by simpa using hv2a
          obtain ⟨q1, _⟩ := hcell p hlp
          have b1 : (p : Int) < (l.length : Int) := by omega
          have b0 : (0 : Int) ≤ (p : Int) := by omega
          have hlr : (rmOf (l.take p) (X : Int)).length ≤ 8 := by have := rm_len (l.take p) (X : Int); rw [List.length_take] at this; omega
          have e := rm_take l (X : Int) p hlp
          clear hcell
          generalize gs_ l p = Y at *
          by_cases hY : (Y : Int) = (X : Int)
          · have hY' : ((Y : Int) != (X : Int)) = false := by simp [hY]
            rw [if_pos hY, List.append_nil] at e
            have HW : Hid (wr.ownsRow w3.heap.size 3 1 u11 (rmOf (l.take (p + 1)) (X : Int)).length (cI (rmOf (l.take (p + 1)) (X : Int)))) := by rw [e]; exact hq
            clear hq e hY
            go_wp2
            go_roundw
            case rel => exact ⟨p + 1, by omega, by go_num, HW.out, hnx⟩
            case measure => simp [intOf]; omega
          · have hY' : ((Y : Int) != (X : Int)) = true := by simpa using hY
            rw [if_neg hY] at e
            have HE := hide e
            clear e hY
            generalize rmOf (l.take p) (X : Int) = D at *
            go_wp2_with (at_builtin; refine wpList_append_own_at _ rfl _ _ 30 rfl w3.heap.size 3 i3 (.int .i64 0) 1 8 Try.underlying30 hi hz0 hz1 hz2 rfl (by decide) _ _ _ rfl (hq.alloc _) ⟨wr.heap.size, 0, none⟩ 1 1 [.int .i64 (Y : Int)] rfl rfl (newsI (by simp [go_sem])) (onesI _) (by unfold maxLen; omega) (by omega) (by simp; omega) ?_)
            intro v' w5 hown hgrow _ _
            have hnx3 := below_owns hnx hz hq (Nat.le_refl _) hgrow
            have HO : Hid (w5.ownsRow w3.heap.size 3 1 v' (rmOf (l.take (p + 1)) (X : Int)).length (cI (rmOf (l.take (p + 1)) (X : Int)))) := by
              rw [HE.out, cI_snoc, List.length_append]; exact hown
            clear hown hgrow hq
            go_wp2
            go_roundw
            case rel => exact ⟨p + 1, by omega, by go_num, HO.out, hnx3⟩
            case measure => simp [intOf]; omega
        · have e : l.take p = l := List.take_of_length_le (by omega)
          rw [e] at hq
          obtain ⟨f1, f2, f3, f4, o1, o2, f5, o3⟩ := waits_facts HOk.out hXm
          have hbw : Below w.heap.size w wr := below_next hb hnx
          obtain ⟨aq, cq, hqv⟩ := owns_slice hq
          subst hqv
          have HD : Sd wr S B P w.heap.size v ⟨a, l⟩ (.slice aq (rmOf l (X : Int)).length cq) (rmOf l (X : Int)) := HS.out.s.beside hq hnx hb.size
          have HD := hide HD
          have hBl := hbw
          clear HS hb hq hnx e hXm
          generalize hR : rmOf l (X : Int) = R at *
          have hR8 : R.length ≤ 8 := o1.len8
          have B1 : Hid (∀ v W, AtS W S B P w.heap.size v ⟨a, l⟩ → Calls Try.prog 18 #[.pointer (some ⟨S, 0, none⟩), .int .i64 (X : Int)] W fun e w' => e = .returned (.bool true) ∧ NowS S B P w.heap.size v ⟨a, R⟩ W w') := fun v W h => by
            have := block_any S B P _ v ⟨a, l⟩ (by show l.length ≤ 1000; omega) HOk.out.nd (X : Int) W h
            rw [show inB (Sc.run ⟨a, l⟩) (X : Int) = true from f1, show blockOf ⟨a, l⟩ (X : Int) = ⟨a, R⟩ by rw [← hR]; rfl] at this
            exact this
          have B2 : Hid (∀ v W, AtS W S B P w.heap.size v ⟨a, R⟩ → Calls Try.prog 18 #[.pointer (some ⟨S, 0, none⟩), .int .i64 (X : Int)] W fun e w' => e = .returned (.bool false) ∧ NowS S B P w.heap.size v ⟨a, R⟩ W w') := fun v W h => by
            have := block_any S B P _ v ⟨a, R⟩ (by show R.length ≤ 1000; omega) o1.nd (X : Int) W h
            rw [show inB (Sc.run ⟨a, R⟩) (X : Int) = false from f2, block_out f2] at this
            exact this
          have Y1 : Hid (∀ v W, AtS W S B P w.heap.size v ⟨a, R⟩ → w.heap.size ≤ W.heap.size → Calls Try.prog 16 #[.pointer (some ⟨S, 0, none⟩), .int .i64 (X : Int)] W fun e w' => e = .returned (.bool false) ∧ NowS S B P w.heap.size v ⟨a, R⟩ W w') := fun v W h hb => by
            have := yield_any S B P _ 0 v ⟨a, R⟩ (by omega) o1 (X : Int) f4 W h hb
            rw [show inB (Sc.run ⟨a, R⟩) (X : Int) = false from f2, yield_out f2] at this
            exact this
          have R1 : Hid (∀ a v W, AtS W S B P w.heap.size v ⟨a, R⟩ → Calls Try.prog 25 #[.pointer (some ⟨S, 0, none⟩)] W fun e w' => Owned R W e w') := fun a v W h => run_any S B P _ v ⟨a, R⟩ (by show R.length ≤ 1000; omega) W h
          have E1 : Hid (∀ v W, AtS W S B P w.heap.size v ⟨a, R⟩ → Calls Try.prog 14 #[.pointer (some ⟨S, 0, none⟩), .int .i64 (X : Int)] W fun e w' => e = .returned (.bool true) ∧ NowS S B P w.heap.size v ⟨freeOf a (X : Int), R⟩ W w') := fun v W h => by
            have := exit_any S B P _ 0 v ⟨a, R⟩ (by omega) o1 (X : Int) f4 W h
            have e : exitOf ⟨a, R⟩ (X : Int) = ⟨freeOf a (X : Int), R⟩ := by
              unfold exitOf
              show (if isB a (X : Int) = true then (⟨freeOf a (X : Int), rmOf R (X : Int)⟩ : Sc) else _) = _
              rw [f3, if_pos rfl, rm_none f2]
            rw [e, show isB (Sc.a ⟨a, R⟩) (X : Int) = true from f3] at this
            exact this
          have E2 : Hid (∀ v W, AtS W S B P w.heap.size v ⟨freeOf a (X : Int), R⟩ → Calls Try.prog 14 #[.pointer (some ⟨S, 0, none⟩), .int .i64 (X : Int)] W fun e w' => e = .returned (.bool false) ∧ NowS S B P w.heap.size v ⟨freeOf a (X : Int), R⟩ W w') := fun v W h => by
            have := exit_any S B P _ 1 v ⟨freeOf a (X : Int), R⟩ (by omega) o2 (X : Int) f4 W h
            rw [exit_no (s := ⟨freeOf a (X : Int), R⟩) f5, show isB (Sc.a ⟨freeOf a (X : Int), R⟩) (X : Int) = false from f5] at this
            exact this
          have D1 : Hid (∀ v W, AtS W S B P w.heap.size v ⟨freeOf a (X : Int), R⟩ → w.heap.size ≤ W.heap.size → Calls Try.prog 20 #[.pointer (some ⟨S, 0, none⟩), .int .i64 (X : Int)] W fun e w' => e = .returned (.bool false) ∧ NowS S B P w.heap.size v ⟨freeOf a (X : Int), R⟩ W w') := fun v W h hb => by
            have := ready_any S B P _ 1 v ⟨freeOf a (X : Int), R⟩ (by show R.length ≤ 1000; omega) (by omega) o2.fit (X : Int) f4 W h hb
            have e1 : readyB ⟨freeOf a (X : Int), R⟩ (X : Int) = false := by unfold readyB; rw [show isB (Sc.a ⟨freeOf a (X : Int), R⟩) (X : Int) = false from f5]; rfl
            rw [show readyOf ⟨freeOf a (X : Int), R⟩ (X : Int) = ⟨freeOf a (X : Int), R⟩ by unfold readyOf; rw [e1]; rfl, e1] at this
            exact this
          have P1 : Hid (∀ v W, AtS W S B P w.heap.size v ⟨freeOf a (X : Int), R⟩ → Calls Try.prog 27 #[.pointer (some ⟨S, 0, none⟩), .int .i64 (X : Int)] W fun e w' => e = .returned (.int .i64 (-1)) ∧ w' = W) := fun v W h => by
            have := place_sany S B P _ 1 v ⟨freeOf a (X : Int), R⟩ (X : Int) f4 (by omega) o2.fit W h
            rw [show placeOf (Sc.a ⟨freeOf a (X : Int), R⟩) (X : Int) = -1 from place_lt f5] at this
            exact this
          have D2 : Hid (∀ v W, AtS W S B P w.heap.size v ⟨a, R⟩ → w.heap.size ≤ W.heap.size → Calls Try.prog 20 #[.pointer (some ⟨S, 0, none⟩), .int .i64 (X : Int)] W fun e w' => e = .returned (.bool true) ∧ NowS S B P w.heap.size v ⟨a, R ++ [X]⟩ W w') := fun v W h hb => by
            have := ready_any S B P _ 0 v ⟨a, R⟩ (by show R.length ≤ 1000; omega) (by omega) o1.fit (X : Int) f4 W h hb
            have e1 : readyB ⟨a, R⟩ (X : Int) = true := by unfold readyB; rw [show isB (Sc.a ⟨a, R⟩) (X : Int) = true from f3, show inB (Sc.run ⟨a, R⟩) (X : Int) = false from f2]; rfl
            rw [show readyOf ⟨a, R⟩ (X : Int) = ⟨a, R ++ [X]⟩ by unfold readyOf; rw [e1, Int.toNat_natCast]; rfl, e1] at this
            exact this
          have D3 : Hid (∀ v W, AtS W S B P w.heap.size v ⟨a, R ++ [X]⟩ → w.heap.size ≤ W.heap.size → Calls Try.prog 20 #[.pointer (some ⟨S, 0, none⟩), .int .i64 (X : Int)] W fun e w' => e = .returned (.bool false) ∧ NowS S B P w.heap.size v ⟨a, R ++ [X]⟩ W w') := fun v W h hb => by
            have := ready_any S B P _ 0 v ⟨a, R ++ [X]⟩ (by show (R ++ [X]).length ≤ 1000; simp; omega) (by omega) o3.fit (X : Int) f4 W h hb
            have e0 : inB (Sc.run ⟨a, R ++ [X]⟩) (X : Int) = true := inB_true.2 ⟨X, by simp, rfl⟩
            have e1 : readyB ⟨a, R ++ [X]⟩ (X : Int) = false := by unfold readyB; rw [e0]; simp
            rw [show readyOf ⟨a, R ++ [X]⟩ (X : Int) = ⟨a, R ++ [X]⟩ by unfold readyOf; rw [e1]; rfl, e1] at this
            exact this
          have R2 : Hid (∀ v W, AtS W S B P w.heap.size v ⟨a, R ++ [X]⟩ → Calls Try.prog 25 #[.pointer (some ⟨S, 0, none⟩)] W fun e w' => Owned (R ++ [X]) W e w') := fun v W h => run_any S B P _ v ⟨a, R ++ [X]⟩ (by show (R ++ [X]).length ≤ 1000; simp; omega) W h
          clear f1 f2 f3 f4 f5 o1 o2 o3 hR HOk
          go_wp2_with fail
          refine (B1.out _ _ HD.out.s).mono ?_
          rintro e w5 ⟨rfl, hN⟩
          obtain ⟨_, hb5⟩ := hN.step HD.out.s hl hBl
          obtain ⟨v5, hS5⟩ := HD.out.now hN
          have HS5 := hide hS5
          clear hS5 hN HD hBl hbw
          go_wp2_with fail
          refine (B2.out _ _ HS5.out.s).mono ?_
          rintro e w6 ⟨rfl, hN⟩
          obtain ⟨_, hb6⟩ := hN.step HS5.out.s hl hb5
          obtain ⟨v6, hS6⟩ := HS5.out.now hN
          have HS6 := hide hS6
          clear hS6 hN HS5 hb5
          go_wp2_with fail
          refine (Y1.out _ _ HS6.out.s hb6.size).mono ?_
          rintro e w7 ⟨rfl, hN⟩
          obtain ⟨_, hb7⟩ := hN.step HS6.out.s hl hb6
          obtain ⟨v7, hS7⟩ := HS6.out.now hN
          have HS7 := hide hS7
          clear hS7 hN HS6 hb6
          go_wp2_with fail
          refine (R1.out _ _ _ HS7.out.s).mono ?_
          rintro e w8 ⟨r8, rfl, ho8, hb8⟩
          obtain ⟨a8, c8, hv8⟩ := owns_slice ho8
          subst hv8
          have HO8 := hide ho8
          have HS8 := hide (HS7.out.below hb8)
          have hb9 := below_next hb7 hb8
          clear HS7 hb7 hb8 ho8
          go_wp2_with fail
          refine (same_rows _ _ _ _ _ _ R _ (by omega) HO8.out HS8.out.ro).mono ?_
          rintro e w9 ⟨rfl, hb10⟩
          have HS9 := hide (HS8.out.below hb10)
          have hb11 := below_next hb9 hb10
          clear HS8 hb9 hb10 HO8
          cases ex
          · go_wp2_with fail
            refine (sawake_any _).mono ?_
            rintro e w10 ⟨rfl, hb12⟩
            have HS10 := hide (HS9.out.below hb12)
            have hb13 := below_next hb11 hb12
            clear HS9 hb11 hb12
            go_wp2_with fail
            refine (D2.out _ _ HS10.out.s hb13.size).mono ?_
            rintro e w11 ⟨rfl, hN⟩
            obtain ⟨_, hb14⟩ := hN.step HS10.out.s hl hb13
            obtain ⟨v11, hS11⟩ := HS10.out.now hN
            have HS11 := hide hS11
            clear hS11 hN HS10 hb13
            go_wp2_with fail
            refine (D3.out _ _ HS11.out.s hb14.size).mono ?_
            rintro e w12 ⟨rfl, hN⟩
            obtain ⟨_, hb15⟩ := hN.step HS11.out.s hl hb14
            obtain ⟨v12, hS12⟩ := HS11.out.now hN
            have HS12 := hide hS12
            clear hS12 hN HS11 hb14
            go_wp2_with fail
            refine (R2.out _ _ HS12.out.s).mono ?_
            rintro e w14 ⟨r14, rfl, ho14, hb16⟩
            obtain ⟨a14, c14, hv14⟩ := owns_slice ho14
            subst hv14
            have hro := owns_below HS12.out.ro hb16
            have hfar : ∀ k, (Value.slice a14 (R ++ [X]).length c14).ownBlock = some k → (Value.slice aq R.length cq).ownBlock ≠ some k := fun k hk e => by
              have := (ho14.lt k hk).1
              have := (HS12.out.ro.lt k e).2
              omega
            have HO14 := hide ho14
            have hz14 : w.heap.size ≤ w14.heap.size := Nat.le_trans hb15.size hb16.size
            have hb17 := hide (below_next hb15 hb16)
            have HFar := hide hfar
            clear HS12 hb15 hb16 ho14 hfar
            go_wp2_with (at_builtin; refine wpList_append_asked _ (by rfl) _ _ 30 rfl w.heap.size 3 i3 (.int .i64 0) 1 8 Try.underlying30 hi hz0 hz1 hz2 rfl (by decide) _ _ _ rfl (hro.alloc _) ⟨w14.heap.size, 0, none⟩ 1 1 [.int .i64 (X : Int)] rfl rfl (newsI (by simp [go_sem])) (onesI _) (by unfold maxLen; omega) (by omega) (by simp; omega) ?_)
            intro v' w15 hown hgrow _
            have hA : Below w14.heap.size w14 (w14.alloc (.cells #[.int .i64 (X : Int)] 3)) := (Below.refl _ _).alloc (Nat.le_refl _) _
            have h14 := owns_below HO14.out hA
            have HO15 := hide (h14.kept hgrow (by
              rcases HO14.out.2 with ⟨h, _⟩ | ⟨g', cap', cur', h, _⟩
              · exact .inl (by rw [h]; rfl)
              · right
                intro e
                exact HFar.out g' (by rw [h]; rfl) (by rw [← e, h]; rfl)))
            have hb18 := hide (below_owns hb17.out hz14 hro (Nat.le_refl _) hgrow)
            obtain ⟨a15, c15, hv15⟩ := owns_slice hown
            subst hv15
            have hcl : cI R ++ [Value.int .i64 (X : Int)] = cI (R ++ [X]) := (cI_snoc R X).symm
            have hll : R.length + 1 = (R ++ [X]).length := by simp
            rw [hcl, hll] at hown
            have HOw := hide hown
            have hlen : (R ++ [X]).length ≤ 1000 := by simp; omega
            rw [hll]
            clear hA h14 hown hgrow hro HFar hcl hll hz14 HO14
            generalize R ++ [X] = RX at *
            go_wp2_with fail
            refine (same_rows _ _ _ _ _ _ RX _ hlen HO15.out HOw.out).mono ?_
            rintro e w16 ⟨rfl, hb19⟩
            have hb20 := hide (below_next hb18.out hb19)
            clear hb19
            go_wp2
            go_ret
            refine ⟨rfl, ?_⟩
            exact hb20.out
          · go_wp2_with fail
            refine (sawake_any _).mono ?_
            rintro e w10 ⟨rfl, hb12⟩
            have HS10 := hide (HS9.out.below hb12)
            have hb13 := below_next hb11 hb12
            clear HS9 hb11 hb12
            go_wp2_with fail
            refine (E1.out _ _ HS10.out.s).mono ?_
            rintro e w11 ⟨rfl, hN⟩
            obtain ⟨_, hb14⟩ := hN.step HS10.out.s hl hb13
            obtain ⟨v11, hS11⟩ := HS10.out.now hN
            have HS11 := hide hS11
            clear hS11 hN HS10 hb13
            go_wp2_with fail
            refine (E2.out _ _ HS11.out.s).mono ?_
            rintro e w12 ⟨rfl, hN⟩
            obtain ⟨_, hb15⟩ := hN.step HS11.out.s hl hb14
            obtain ⟨v12, hS12⟩ := HS11.out.now hN
            have HS12 := hide hS12
            clear hS12 hN HS11 hb14
            go_wp2_with fail
            refine (D1.out _ _ HS12.out.s hb15.size).mono ?_
            rintro e w13 ⟨rfl, hN⟩
            obtain ⟨_, hb16⟩ := hN.step HS12.out.s hl hb15
            obtain ⟨v13, hS13⟩ := HS12.out.now hN
            have HS13 := hide hS13
            clear hS13 hN HS12 hb15
            go_wp2_with fail
            refine (P1.out _ _ HS13.out.s).mono ?_
            rintro e w14 ⟨rfl, hw⟩
            subst hw
            go_wp2_with fail
            refine (R1.out _ _ _ HS13.out.s).mono ?_
            rintro e w15 ⟨r15, rfl, ho15, hb17⟩
            obtain ⟨a15, c15, hv15⟩ := owns_slice ho15
            subst hv15
            have HO15 := hide ho15
            have HS15 := hide (HS13.out.below hb17)
            have hb18 := below_next hb16 hb17
            clear HS13 hb16 hb17 ho15
            go_wp2_with fail
            refine (same_rows _ _ _ _ _ _ R _ (by omega) HO15.out HS15.out.ro).mono ?_
            rintro e w16 ⟨rfl, hb19⟩
            have hb20 := hide (below_next hb18 hb19)
            clear hb18 hb19
            go_wp2
            go_ret
            refine ⟨rfl, ?_⟩
            exact hb20.out

end Go.Proofs.Ytngaecfainhjcaa
