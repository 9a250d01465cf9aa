/-
  What the law CondOrder asks comes out true at any three bytes.
-/
import Derived.Test.YtinfmchbcipbjaaAwake
import Derived.Test.YtinfmchbcipbjaaUp
import Derived.Deep.DeepCutAuto
namespace Go.Proofs.Ytinfmchbcipbjaa
open Go.RowKit

/-- Those that wait from one number on, of A. -/
def restA (A i : Nat) : List Int := upZ (i : Int) (A + 1 - i)
theorem rest_len (A i : Nat) : (restA A i).length = A + 1 - i := up_len _ _
theorem rest_end {A i : Nat} (h : A < i) : restA A i = [] := by
  unfold restA
  rw [show A + 1 - i = 0 by omega]
  rfl
theorem rest_open {A i : Nat} (h : i ≤ A) : restA A i = (i : Int) :: restA A (i + 1) := by
  unfold restA
  rw [show A + 1 - i = (A + 1 - (i + 1)) + 1 by omega]
  show (i : Int) :: upZ ((i : Int) + 1) _ = _
  rw [show (i : Int) + 1 = ((i + 1 : Nat) : Int) by omega]
theorem rest_tail (A i : Nat) : (restA A i).tail = restA A (i + 1) := by
  by_cases h : i ≤ A
  · rw [rest_open h]; rfl
  · rw [rest_end (by omega), rest_end (by omega)]; rfl
theorem rest_hold {A i : Nat} (h : i ≤ A) : hold (restA A i) = (i : Int) ∧ some1 (restA A i) = true := by
  rw [rest_open h]
  exact ⟨rfl, rfl⟩
theorem rest_ok {A i : Nat} (h : 1 ≤ i) : Okz (restA A i) := ⟨up_nodup _ _, fun x hx => by have := ((up_mem _ _ x).1 hx).1; omega⟩
theorem up_wait {i : Nat} (h : 1 ≤ i) : waitL (upZ 1 (i - 1)) (i : Int) = upZ 1 (i + 1 - 1) := by
  obtain ⟨j, rfl⟩ : ∃ j, i = j + 1 := ⟨i - 1, by omega⟩
  have h1 : ¬ ((j + 1 : Nat) : Int) < 1 := by omega
  rw [(wait_out h1 (up_out (by omega))).2]
  show upZ 1 j ++ [_] = upZ 1 (j + 1)
  rw [up_snoc]
  congr 2
  omega
/-- .. and those that came behind the signals. -/
def lstA (A C i : Nat) : List Int := restA A (C + 1) ++ upZ 101 (i - 1)
theorem lst_len (A C i : Nat) : (lstA A C i).length = (A + 1 - (C + 1)) + (i - 1) := by
  unfold lstA
  rw [List.length_append, rest_len, up_len]
theorem lst_next {i : Nat} (A C : Nat) (h : 1 ≤ i) : lstA A C (i + 1) = lstA A C i ++ [100 + (i : Int)] := by
  obtain ⟨j, rfl⟩ : ∃ j, i = j + 1 := ⟨i - 1, by omega⟩
  unfold lstA
  show restA A (C + 1) ++ upZ 101 (j + 1) = (restA A (C + 1) ++ upZ 101 j) ++ _
  rw [up_snoc, List.append_assoc]
  congr 3
  omega
theorem lst_wait {A C i : Nat} (hA : A ≤ 9) (h : 1 ≤ i) : waitE (lstA A C i) (100 + (i : Int)) = 14 ∧ waitL (lstA A C i) (100 + (i : Int)) = lstA A C (i + 1) := by
  have h1 : ¬ 100 + (i : Int) < 1 := by omega
  have h2 : inZ (lstA A C i) (100 + (i : Int)) = false := inZ_false.2 fun hm => by
    rcases List.mem_append.1 hm with q | q
    · have := (up_mem _ _ _).1 q; omega
    · have := (up_mem _ _ _).1 q; omega
  rw [(wait_out h1 h2).1, (wait_out h1 h2).2, lst_next A C h]
  exact ⟨rfl, rfl⟩
/-- What is wanted, on the way. -/
def wantA (C i : Nat) : List Int := upZ ((C + 1 : Nat) : Int) (i - (C + 1))
theorem want_len (C i : Nat) : (wantA C i).length = i - (C + 1) := up_len _ _
theorem want_next {C i : Nat} (h : C + 1 ≤ i) : wantA C (i + 1) = wantA C i ++ [(i : Int)] := by
  unfold wantA
  rw [show i + 1 - (C + 1) = (i - (C + 1)) + 1 by omega, up_snoc]
  congr 2
  omega
theorem want_end {A C i : Nat} (h1 : i ≤ max (A + 1) (C + 1)) (h2 : C + 1 ≤ i) (h3 : A < i) : wantA C i = lstA A C 1 := by
  unfold wantA lstA restA
  rw [show A + 1 - (C + 1) = i - (C + 1) by omega]
  show _ = _ ++ []
  rw [List.append_nil]

set_option maxRecDepth 20000 in
set_option maxHeartbeats 8000000 in
theorem order_walk (n m k : Int) (hn : 0 ≤ n ∧ n ≤ 255) (hm : 0 ≤ m ∧ m ≤ 255) (hk : 0 ≤ k ∧ k ≤ 255) (w : World) : Calls Try.prog 4 #[.int .u8 n, .int .u8 m, .int .u8 k] w fun e w' => e = .returned (.bool true) ∧ Below w.heap.size w w' := by
  obtain ⟨i3, hi, hz0, hz1, hz2⟩ := info_parts info3
  obtain ⟨A, na, hA9, na2, na3⟩ := u8_mod hn 10 (by omega) (by omega)
  obtain ⟨B, nb, hB9, nb2, nb3⟩ := u8_mod hm 10 (by omega) (by omega)
  obtain ⟨C, nc, hC9, nc2, nc3⟩ := u8_mod hk 10 (by omega) (by omega)
  have N0 := hide (x_new (w := w))
  have HAW := hide awake_any
  have HNA : Hid (n.tmod 10 = (A : Int) ∧ wrap64 (A : Int) = (A : Int)) := ⟨na, na3⟩
  have HNB : Hid (m.tmod 10 = (B : Int) ∧ wrap64 (B : Int) = (B : Int)) := ⟨nb, nb3⟩
  have HNC : Hid (k.tmod 10 = (C : Int) ∧ wrap64 (C : Int) = (C : Int)) := ⟨nc, nc3⟩
  clear na na2 na3 nb nb2 nb3 nc nc2 nc3 hn hm hk
  have W1 : Hid (∀ M i W, 1 ≤ i → i ≤ A → Xs w M none0 (upZ 1 (i - 1)) W → Calls Try.prog 15 #[.pointer (some ⟨M, 0, none⟩), .int .i64 (i : Int)] W fun e w' => ∃ E, e = .returned (.int .i64 E) ∧ Xs w M none0 (upZ 1 (i + 1 - 1)) w') := hide fun M i W h1 h2 q => by
    have := x_wait (by rw [up_len]; omega) (i : Int) q
    rw [up_wait h1] at this
    exact this.mono fun e w' p => ⟨_, p.1, p.2.1⟩
  have S1 : Hid (∀ M i W, 1 ≤ i → i ≤ A → Xs w M none0 (restA A i) W → Calls Try.prog 10 #[.pointer (some ⟨M, 0, none⟩)] W fun e w' => e = .returned (.tuple #[.int .i64 (i : Int), .bool true]) ∧ Xs w M none0 (restA A (i + 1)) w') := hide fun M i W h1 h2 q => by
    have := x_signal (rest_ok h1) (by rw [rest_len]; omega) q
    rw [(rest_hold h2).1, (rest_hold h2).2, rest_tail] at this
    exact this.mono fun e w' p => ⟨p.1, p.2.1⟩
  have S2 : Hid (∀ M i W, A < i → Xs w M none0 (restA A i) W → Calls Try.prog 10 #[.pointer (some ⟨M, 0, none⟩)] W fun e w' => e = .returned (.tuple #[.int .i64 0, .bool false]) ∧ Xs w M none0 (restA A (i + 1)) w') := hide fun M i W h2 q => by
    have := x_signal (l := restA A i) (rest_ok (by omega)) (by rw [rest_len]; omega) q
    rw [rest_tail, rest_end h2] at this
    exact this.mono fun e w' p => ⟨p.1, p.2.1⟩
  have W2 : Hid (∀ M i W, 1 ≤ i → i ≤ B → Xs w M none0 (lstA A C i) W → Calls Try.prog 15 #[.pointer (some ⟨M, 0, none⟩), .int .i64 (100 + (i : Int))] W fun e w' => e = .returned (.int .i64 14) ∧ Xs w M none0 (lstA A C (i + 1)) w') := hide fun M i W h1 h2 q => by
    have hA : A ≤ 9 := by omega
    obtain ⟨e1, e2⟩ := lst_wait (A := A) (C := C) (i := i) hA h1
    have hl : (lstA A C i).length ≤ 1000 := by rw [lst_len]; omega
    have := x_wait (l := lstA A C i) hl (100 + (i : Int)) q
    rw [e1, e2] at this
    exact this.mono fun e w' p => ⟨p.1, p.2.1⟩
  have HNUM : Hid (A ≤ 9 ∧ B ≤ 9 ∧ C ≤ 9) := hide ⟨by omega, by omega, by omega⟩
  go_enter Try.func4, Try.ntmps4
  go_wp2_with fail
  refine N0.out.mono ?_
  rintro e w1 ⟨rfl, hX⟩
  have HX := hide hX
  clear hX N0
  generalize w.heap.size = M at HX ⊢
  go_wp2_with fail
  rw [HNA.out.1, HNA.out.2, HNB.out.1, HNB.out.2, HNC.out.1, HNC.out.2]
  clear HNA HNB HNC
  go_loopw [11] (fun v wr => ∃ i : Nat, v = .int .i64 (i : Int) ∧ 1 ≤ i ∧ i ≤ A + 1 ∧ Hid (Xs w M none0 (upZ 1 (i - 1)) wr)) (fun v _ => A + 1 - (intOf v).toNat)
  case atStart => exact ⟨1, rfl, by omega, by omega, HX⟩
  case round =>
    clear HX
    obtain ⟨i, rfl, hi1, hi2, HX⟩ := hrel
    by_cases q : i ≤ A
    · have q1 : (i : Int) ≤ (A : Int) := by omega
      have C1 := hide (W1.out M i wr hi1 q HX.out)
      have q0 : (0 : Int) ≤ (i : Int) := by omega
      clear HX
      go_wp2_with fail
      refine C1.out.mono ?_
      rintro e w2 ⟨E, rfl, hX⟩
      have HX2 := hide hX
      clear hX C1
      go_wp2_with fail
      go_roundw
      case rel => exact ⟨i + 1, by go_num, by omega, by omega, HX2⟩
      case measure => simp [intOf]; omega
    · have q1 : ¬ (i : Int) ≤ (A : Int) := by omega
      have ei : i = A + 1 := by omega
      subst ei
      have HX1 : Hid (Xs w M none0 (restA A 1) wr) := HX
      clear HX q hi1 hi2 W1
      go_wp2_with fail
      clear q1
      go_loopw [12] (fun v wr => ∃ i : Nat, v = .int .i64 (i : Int) ∧ 1 ≤ i ∧ i ≤ C + 1 ∧ Hid (Xs w M none0 (restA A i) wr)) (fun v _ => C + 1 - (intOf v).toNat)
      case atStart => exact ⟨1, rfl, by omega, by omega, HX1⟩
      case round =>
        clear HX1
        obtain ⟨i, rfl, hi1, hi2, HX⟩ := hrel
        by_cases q : i ≤ C
        · have q1 : (i : Int) ≤ (C : Int) := by omega
          have q0 : (0 : Int) ≤ (i : Int) := by omega
          by_cases qa : i ≤ A
          · have qa1 : (i : Int) ≤ (A : Int) := by omega
            have C1 := hide (S1.out M i wr hi1 qa HX.out)
            have tt : ((i : Int) != (i : Int)) = false := by simp
            clear HX
            go_wp2_with fail
            refine C1.out.mono ?_
            rintro e w2 ⟨rfl, hX⟩
            have HX2 := hide hX
            clear hX C1
            go_wp2_with fail
            go_roundw
            case rel => exact ⟨i + 1, by go_num, by omega, by omega, HX2⟩
            case measure => simp [intOf]; omega
          · have qa1 : ¬ (i : Int) ≤ (A : Int) := by omega
            have C1 := hide (S2.out M i wr (by omega) HX.out)
            clear HX
            go_wp2_with fail
            refine C1.out.mono ?_
            rintro e w2 ⟨rfl, hX⟩
            have HX2 := hide hX
            clear hX C1
            go_wp2_with fail
            go_roundw
            case rel => exact ⟨i + 1, by go_num, by omega, by omega, HX2⟩
            case measure => simp [intOf]; omega
        · have q1 : ¬ (i : Int) ≤ (C : Int) := by omega
          have ei : i = C + 1 := by omega
          subst ei
          have HX1 : Hid (Xs w M none0 (lstA A C 1) wr) := by
            have e : lstA A C 1 = restA A (C + 1) := List.append_nil _
            rw [e]
            exact HX
          clear HX q hi1 hi2 S1 S2
          go_wp2_with fail
          clear q1
          go_loopw [15] (fun v wr => ∃ i : Nat, v = .int .i64 (i : Int) ∧ 1 ≤ i ∧ i ≤ B + 1 ∧ Hid (Xs w M none0 (lstA A C i) wr)) (fun v _ => B + 1 - (intOf v).toNat)
          case atStart => exact ⟨1, rfl, by omega, by omega, HX1⟩
          case round =>
            clear HX1
            obtain ⟨i, rfl, hi1, hi2, HX⟩ := hrel
            by_cases q : i ≤ B
            · have q1 : (i : Int) ≤ (B : Int) := by omega
              have q0 : (0 : Int) ≤ (i : Int) := by omega
              have C1 := hide (W2.out M i wr hi1 q HX.out)
              have hw1 : IntKind.i64.wrap (100 + (i : Int)) = 100 + (i : Int) := wrapB (by omega)
              clear HX
              go_wp2_with fail
              refine C1.out.mono ?_
              rintro e w2 ⟨rfl, hX⟩
              have HX2 := hide hX
              clear hX C1
              go_wp2_with fail
              go_roundw
              case rel => exact ⟨i + 1, by go_num, by omega, by omega, HX2⟩
              case measure => simp [intOf]; omega
            · have q1 : ¬ (i : Int) ≤ (B : Int) := by omega
              have ei : i = B + 1 := by omega
              subst ei
              have HXF := HX
              obtain ⟨wl, hwl⟩ : ∃ wl, wl = wr := ⟨_, rfl⟩
              have HO0 := hide (lit0 wr)
              have HB0 := hide (below1 wr (.cells #[] 3))
              rw [← hwl] at HXF HO0 HB0
              have hc1 : IntKind.i64.wrap ((C : Int) + 1) = ((C + 1 : Nat) : Int) := by rw [wrapB (by omega)]; omega
              clear HX q hi1 hi2 W2
              go_wp2_with fail
              clear q1 hc1
              rw [← hwl]
              clear hwl
              go_loopw [16, 17] (fun v i wr => ∃ j : Nat, ∃ a d, i = .int .i64 (j : Int) ∧ v = .slice a (wantA C j).length d ∧ C + 1 ≤ j ∧ j ≤ max (A + 1) (C + 1) ∧ Hid (wr.ownsRow wl.heap.size 3 1 (.slice a (wantA C j).length d) (wantA C j).length (cZ (wantA C j))) ∧ Hid (Below wl.heap.size wl wr)) (fun _ i _ => A + 1 - (intOf i).toNat)
              case atStart =>
                have e : wantA C (C + 1) = [] := by unfold wantA; rw [Nat.sub_self]; rfl
                exact ⟨C + 1, _, _, rfl, by rw [e]; rfl, by omega, by omega, by rw [e]; exact HO0, HB0⟩
              case round =>
                clear HO0 HB0
                obtain ⟨j, a, d, rfl, rfl, hj1, hj2, HO, HB⟩ := hrel
                have hN9 := HNUM.out
                have hzw := HB.out.size
                by_cases q : j ≤ A
                · have q1 : (j : Int) ≤ (A : Int) := by omega
                  have q0 : (0 : Int) ≤ (j : Int) := by omega
                  have HK1 := hide (want_next hj1)
                  obtain ⟨N, hN⟩ : ∃ N, (wantA C j).length = N := ⟨_, rfl⟩
                  have hN20 : N ≤ 20 := by rw [← hN, want_len]; omega
                  have HO' : Hid (wr.ownsRow wl.heap.size 3 1 (.slice a N d) N (cZ (wantA C j))) := by
                    have := HO.out
                    rw [hN] at this
                    exact this
                  rw [hN]
                  have HN := hide hN
                  have hR' := HO'.out
                  clear HO hN
                  go_wp2_with (at_builtin; refine wpList_append_own_at _ rfl _ _ 26 rfl wl.heap.size 3 i3 (.int .i64 0) 1 8 Try.underlying26 hi hz0 hz1 hz2 rfl (by decide) _ _ _ rfl (hR'.alloc _) ⟨wr.heap.size, 0, none⟩ 1 1 [.int .i64 (j : Int)] rfl rfl (newsI (by simp [go_sem])) (onesI _) (by unfold maxLen; omega) (by omega) (by simp; omega) ?_)
                  intro v' w3 hown hgrow _ hat
                  obtain ⟨av', ac', rfl⟩ := owns_slice hown
                  have hb3 : Below wl.heap.size wl w3 := (HB.out.alloc hzw _).grown hgrow (by simp; omega) (fun x hx => (hR'.lt x hx).1)
                  have HB3 := hide hb3
                  have e4 : (wantA C (j + 1)).length = N + 1 := by rw [HK1.out, List.length_append, HN.out]; rfl
                  have HO3 : Hid (w3.ownsRow wl.heap.size 3 1 (.slice av' (N + 1) ac') (N + 1) (cZ (wantA C (j + 1)))) := by
                    rw [HK1.out, cZ_snoc]
                    exact hown
                  have HE := hide e4
                  clear hown hgrow hat hR' hb3 e4 HO' HN HK1
                  go_wp2_with fail
                  go_roundw
                  case rel =>
                    refine ⟨j + 1, av', ac', by go_num, by rw [HE.out], by omega, by omega, ?_, HB3⟩
                    rw [HE.out]
                    exact HO3
                  case measure => simp [intOf]; omega
                · have q1 : ¬ (j : Int) ≤ (A : Int) := by omega
                  rw [want_end hj2 hj1 (by omega)]
                  rw [want_end hj2 hj1 (by omega)] at HO
                  have HO1 := HO
                  have HB1 := HB
                  clear HO HB q hj1 hj2 hzw
                  go_wp2_with fail
                  clear q1
                  go_loopw [16, 18] (fun v i wr => ∃ j : Nat, ∃ a d, i = .int .i64 (j : Int) ∧ v = .slice a (lstA A C j).length d ∧ 1 ≤ j ∧ j ≤ B + 1 ∧ Hid (wr.ownsRow wl.heap.size 3 1 (.slice a (lstA A C j).length d) (lstA A C j).length (cZ (lstA A C j))) ∧ Hid (Below wl.heap.size wl wr)) (fun _ i _ => B + 1 - (intOf i).toNat)
                  case atStart => exact ⟨1, _, _, rfl, rfl, by omega, by omega, HO1, HB1⟩
                  case round =>
                    clear HO1 HB1
                    obtain ⟨j, a, d, rfl, rfl, hj1, hj2, HO, HB⟩ := hrel
                    have hzw := HB.out.size
                    by_cases q : j ≤ B
                    · have q1 : (j : Int) ≤ (B : Int) := by omega
                      have q0 : (0 : Int) ≤ (j : Int) := by omega
                      have HK1 := hide (lst_next A C hj1)
                      obtain ⟨N, hN⟩ : ∃ N, (lstA A C j).length = N := ⟨_, rfl⟩
                      have hN20 : N ≤ 40 := by rw [← hN, lst_len]; omega
                      have hw1 : IntKind.i64.wrap (100 + (j : Int)) = 100 + (j : Int) := wrapB (by omega)
                      have HO' : Hid (wr.ownsRow wl.heap.size 3 1 (.slice a N d) N (cZ (lstA A C j))) := by
                        have := HO.out
                        rw [hN] at this
                        exact this
                      rw [hN]
                      have HN := hide hN
                      have hR' := HO'.out
                      clear HO hN
                      go_wp2_with (at_builtin; refine wpList_append_own_at _ rfl _ _ 26 rfl wl.heap.size 3 i3 (.int .i64 0) 1 8 Try.underlying26 hi hz0 hz1 hz2 rfl (by decide) _ _ _ rfl (hR'.alloc _) ⟨wr.heap.size, 0, none⟩ 1 1 [.int .i64 (100 + (j : Int))] rfl rfl (newsI (by simp [go_sem])) (onesI _) (by unfold maxLen; omega) (by omega) (by simp; omega) ?_)
                      intro v' w3 hown hgrow _ hat
                      obtain ⟨av', ac', rfl⟩ := owns_slice hown
                      have hb3 : Below wl.heap.size wl w3 := (HB.out.alloc hzw _).grown hgrow (by simp; omega) (fun x hx => (hR'.lt x hx).1)
                      have HB3 := hide hb3
                      have e4 : (lstA A C (j + 1)).length = N + 1 := by rw [HK1.out, List.length_append, HN.out]; rfl
                      have HO3 : Hid (w3.ownsRow wl.heap.size 3 1 (.slice av' (N + 1) ac') (N + 1) (cZ (lstA A C (j + 1)))) := by
                        rw [HK1.out, cZ_snoc]
                        exact hown
                      have HE := hide e4
                      clear hown hgrow hat hR' hb3 e4 HO' HN HK1 hw1
                      go_wp2_with fail
                      go_roundw
                      case rel =>
                        refine ⟨j + 1, av', ac', by go_num, by rw [HE.out], by omega, by omega, ?_, HB3⟩
                        rw [HE.out]
                        exact HO3
                      case measure => simp [intOf]; omega
                    · have q1 : ¬ (j : Int) ≤ (B : Int) := by omega
                      have ej : j = B + 1 := by omega
                      subst ej
                      have HXJ := hide (HXF.out.join (Nat.le_refl _) HO.out HB.out)
                      have HRW := hide (owned_row (F := none0) HO.out)
                      have hlen : (lstA A C (B + 1)).length ≤ 1000 := by rw [lst_len]; omega
                      clear HO HB HXF hj1 hj2 q hzw hN9
                      generalize lstA A C (B + 1) = l at *
                      obtain ⟨L, hL⟩ : ∃ L, l.length = L := ⟨_, rfl⟩
                      have CB := x_broad HXJ.out
                      have HI : Hid (∀ a1 a2 c1 c2 W, RowZ W a1 l → RowZ W a2 l → Calls Try.prog 13 #[.slice a1 L c1, .slice a2 L c2] W fun e w' => e = .returned (.bool true) ∧ Below W.heap.size W w') := hide fun a1 a2 c1 c2 W k1 k2 => by
                        have := same_ints a1 a2 c1 c2 l W hlen k1 k2
                        rw [hL] at this
                        exact this
                      rw [hL] at CB ⊢
                      have HCB := hide CB
                      clear CB hL hlen HXJ
                      go_wp2_with fail
                      clear q1
                      refine HCB.out.mono ?_
                      rintro e w4 ⟨a4, c4, rfl, hr, hX, hk⟩
                      have HX4 := hide hX
                      have HR4 := hide hr.row
                      have HR5 := hide (HRW.out.kept hk).row
                      clear hX hr hk HCB HRW
                      go_wp2_with fail
                      refine (HAW.out _).mono ?_
                      rintro e w5 ⟨rfl, hb⟩
                      have HX5 := hide (HX4.out.below hb)
                      have HR6 := hide (HR4.out.below hb)
                      have HR7 := hide (HR5.out.below hb)
                      clear hb HX4 HR4 HR5 HAW
                      go_wp2_with fail
                      refine (HI.out _ _ _ _ _ HR6.out HR7.out).mono ?_
                      rintro e w6 ⟨rfl, hb⟩
                      have HX6 := hide (HX5.out.below hb)
                      clear hb HX5 HR6 HR7 HI
                      have CW := hide (x_waits (l := []) (by simp) HX6.out)
                      go_wp2_with fail
                      refine CW.out.mono ?_
                      rintro e w7 ⟨a7, c7, rfl, _, hX, _⟩
                      have HX7 := hide hX
                      clear hX CW HX6
                      have CB := hide (x_broad HX7.out)
                      go_wp2_with fail
                      refine CB.out.mono ?_
                      rintro e w8 ⟨a8, c8, rfl, _, hX, _⟩
                      have HF := hide hX.2.2
                      clear hX CB HX7
                      go_wp2
                      go_ret
                      exact ⟨rfl, HF.out⟩

end Go.Proofs.Ytinfmchbcipbjaa
