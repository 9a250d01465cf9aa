/-
  What the law SemaOrder asks comes out true at any byte and any bytes.
-/
import Derived.Test.YtgldhlcdnijecaaOMath
import Derived.Test.YtgldhlcdnijecaaTries
import Derived.Deep.DeepCutAuto
import Derived.Deep.CutBlock
namespace Go.Proofs.Ytgldhlcdnijecaa
open Go.RowKit

/-- The program's, with the tasks from the one behind p on waiting, of K. -/
def SO (w : World) (M : Nat) (N : Int) (u : Nat → Int) (K p : Nat) (f : Int) (wr : World) : Prop := Xs w M none0 ⟨N, f, qd u p (K - p)⟩ wr
def SA (w : World) (M : Nat) (N : Int) (u : Nat → Int) (k : Nat) (wr : World) : Prop := Xs w M none0 ⟨N, 0, qd u 0 k⟩ wr
theorem byte_wraps {x : Int} (h : 0 ≤ x ∧ x ≤ 255) : wrap64 x = x ∧ IntKind.i64.wrap x = x := ⟨by unfold wrap64; omega, wrapB (by omega)⟩
theorem small_wraps {x : Int} (h : -100000 ≤ x ∧ x ≤ 100000) : wrap64 x = x ∧ IntKind.i64.wrap x = x := ⟨by unfold wrap64; omega, wrapB (by omega)⟩
theorem up_gz : ∀ (n i : Nat) (s : Int), i < n → gz (upZ s n) i = s + (i : Int)
  | 0, _, _, h => absurd h (by omega)
  | n + 1, 0, s, _ => by show s = s + 0; omega
  | n + 1, i + 1, s, h => by
    show gz (upZ (s + 1) n) i = _
    rw [up_gz n i (s + 1) (by omega)]
    omega

set_option maxRecDepth 20000 in
set_option maxHeartbeats 8000000 in
theorem order_walk (size : Int) (hsz : 0 ≤ size ∧ size ≤ 255) (a1 : Option Addr) (l1 c1 : Nat) (h1 : l1 ≤ c1) (g1 : c1 ≤ maxLen) (w : World) (hbytes : Bytes w a1 l1) : Calls Try.prog 5 #[.int .u8 size, .slice a1 l1 c1] w fun e w' => e = .returned (.bool true) ∧ Below w.heap.size w w' := by
  have hl1 : l1 ≤ maxLen := Nat.le_trans h1 g1
  unfold maxLen at hl1
  clear h1 g1
  obtain ⟨m, hm, hm16, hm3, hm64⟩ := u8_mod hsz 16 (by omega) (by omega)
  obtain ⟨K, hK1, hK2, hK3⟩ : ∃ K, K ≤ l1 ∧ K ≤ 20 ∧ (K = l1 ∨ K = 20) := ⟨min l1 20, by omega, by omega, by omega⟩
  obtain ⟨ds, hds, hcells⟩ := bytes_list hbytes K hK1
  obtain ⟨N, hN⟩ : ∃ N, 1 + (m : Int) = N := ⟨_, rfl⟩
  have hN1 : 1 ≤ N := by omega
  have hN16 : N ≤ 16 := by omega
  have HNUM : Hid (Nums N (uOf N ds) K) := hide ⟨hN1, hN16, hK2, fun i hi => by
    obtain ⟨_, _, _, _, _, hx⟩ := hcells i hi
    have := uOf_range (N := N) hN1 hx
    exact ⟨this.1, this.2.1⟩⟩
  have HC := hide hcells
  have HNR : Hid (1 ≤ N ∧ N ≤ 16) := ⟨hN1, hN16⟩
  have HKK : Hid (K ≤ l1 ∧ K ≤ 20 ∧ (K = l1 ∨ K = 20)) := ⟨hK1, hK2, hK3⟩
  have HM1 : Hid (size.tmod 16 = (m : Int) ∧ wrap64 (m : Int) = (m : Int) ∧ (IntKind.i64.wrap (1 + (m : Int)) = 1 + (m : Int) ∧ wrap64 (1 + (m : Int)) = 1 + (m : Int))) := ⟨hm, hm64, one_more hm16⟩
  have hnew : newS (1 + (m : Int)) = ⟨N, N, []⟩ := by
    have : sizeOk (1 + (m : Int)) = N := by unfold sizeOk; omega
    unfold newS
    rw [this]
  have N0 := x_new (w := w) (1 + (m : Int))
  rw [hnew] at N0
  have HN0 := hide N0
  have HEN := hide hN
  have HA0 : Hid (∀ M W, Xs w M none0 ⟨N, N, []⟩ W → Calls Try.prog 18 #[.pointer (some ⟨M, 0, none⟩), .int .i64 99, .int .i64 N] W fun e w' => e = .returned (.int .i64 0) ∧ SA w M N (uOf N ds) 0 w') := hide fun M W k => by
    have ok : Okw ⟨N, N, []⟩ := ⟨hN1, hN16, by show 0 ≤ N; omega, Int.le_refl _, fun x hx => by simp at hx⟩
    have := x_acq ok (by simp) 99 N k
    obtain ⟨e1, e2⟩ := Nums.first (N := N) hN1
    rw [e1, e2] at this
    exact this.mono fun e w' q => ⟨q.1, q.2.1⟩
  have HA1 : Hid (∀ M k W, k < K → SA w M N (uOf N ds) k W → Calls Try.prog 18 #[.pointer (some ⟨M, 0, none⟩), .int .i64 (1 + (k : Int)), .int .i64 (1 + (gz ds k).tmod N)] W fun e w' => e = .returned (.int .i64 14) ∧ SA w M N (uOf N ds) (k + 1) w') := hide fun M k W hk q => by
    have := x_acq (HNUM.out.ok (p := 0) (r := k) (by omega) (Int.le_refl 0) (by omega)) (by rw [qd_len]; omega) (1 + (k : Int)) (uOf N ds k) q
    obtain ⟨e1, e2⟩ := HNUM.out.acq hk
    rw [e1, e2] at this
    exact this.mono fun e w' q => ⟨q.1, q.2.1⟩
  have HB1 : Hid (∀ M p f W, p < K → 0 ≤ f → f < N → SO w M N (uOf N ds) K p f W → ∃ c f2, p + c ≤ K ∧ f2 + sumU (uOf N ds) p c = f + 1 ∧ 0 ≤ f2 ∧ f2 ≤ N ∧ (p + c < K → f2 < uOf N ds (p + c)) ∧ Calls Try.prog 17 #[.pointer (some ⟨M, 0, none⟩), .int .i64 1] W fun e w' => ∃ a d, e = .returned (.tuple #[.slice a c d, .int .i64 0]) ∧ RowZ w' a (upZ (1 + (p : Int)) c) ∧ SO w M N (uOf N ds) K (p + c) f2 w') := hide fun M p f W hp h0 hf q => by
    obtain ⟨c, f2, e1, e2, e3, e4, e5, e6, e7, e8⟩ := HNUM.out.rel (p := p) (r := K - p) (by omega) h0 hf
    have := x_rel (HNUM.out.ok (p := p) (r := K - p) (by omega) h0 (by omega)) (by rw [qd_len]; omega) 1 q
    rw [e2, e3, e4, up_len, show K - p - c = K - (p + c) by omega] at this
    exact ⟨c, f2, by omega, e5, e6, e7, fun h => e8 (by omega), this.mono fun e w' q => by
      obtain ⟨a, d, q1, q2, q3, _⟩ := q
      exact ⟨a, d, q1, q2.row, q3.mono fun _ h => h.elim⟩⟩
  have HSUM : Hid (∀ c p, p + c ≤ K → 0 ≤ sumU (uOf N ds) p c ∧ sumU (uOf N ds) p c ≤ 16 * (c : Int)) := hide fun c p h => sum_range _ (K := K) (fun i hi => ⟨(HNUM.out.u i hi).1, Int.le_trans (HNUM.out.u i hi).2 hN16⟩) c p h
  clear hcells hbytes hnew N0 hN hm hm16 hm3 hm64 hsz hK1 hK2 hK3 hds hN1 hN16
  obtain ⟨y1, y2, y3, y4⟩ := HM1.out
  go_enter Try.func5, Try.ntmps5
  go_wp2_with fail
  clear y1 y2 y3 y4 HM1
  refine HN0.out.mono ?_
  rintro e w1 ⟨rfl, hA⟩
  have HX := hide hA
  clear hA HN0
  generalize w.heap.size = M at HX ⊢
  rw [HEN.out]
  clear HEN
  go_wp2_with fail
  refine (HA0.out M w1 HX.out).mono ?_
  rintro e w2 ⟨rfl, hA⟩
  have HX2 := hide hA
  clear hA HX HA0
  go_upto_block 0 with fail
  go_cut [7] (fun v wx => v = .int .i64 (K : Int) ∧ Hid (SA w M N (uOf N ds) K wx))
  case first =>
    go_wp2_with fail
    go_loopw [7] (fun v wr => ∃ k : Nat, v = .int .i64 (k : Int) ∧ k ≤ K ∧ Hid (SA w M N (uOf N ds) k wr)) (fun v _ => K - (intOf v).toNat)
    case atStart => exact ⟨0, rfl, by omega, HX2⟩
    case round =>
      clear HX2
      obtain ⟨k, rfl, hk, HX⟩ := hrel
      by_cases q : k < K
      · obtain ⟨b, off, rfl, hb, p0, hx⟩ := HC.out k q
        have p0' := ((bcell HX.out.2.2).1 _ _ hb).trans p0
        have q1 : (k : Int) < (l1 : Int) := by have := HKK.out; omega
        have q2 : (k : Int) < 20 := by have := HKK.out; omega
        have q3 : (0 : Int) ≤ (k : Int) := by omega
        have HAC := hide (HA1.out M k wr q HX.out)
        have hr := uOf_range (N := N) (ds := ds) (i := k) HNR.out.1 hx
        obtain ⟨T, hT⟩ : ∃ T, (gz ds k).tmod N = T := ⟨_, rfl⟩
        have hrT : 0 ≤ T ∧ T < N := by rw [← hT]; exact hr.2.2
        have HNR' := HNR.out
        have nz : (N == 0) = false := by simp; omega
        have nz2 : ¬ N = 0 := by omega
        have nz3 : decide (N = 0) = false := decide_eq_false (by omega)
        have hk20 : (k : Int) + 1 ≤ 20 := by omega
        have hw := small_wraps (x := 1 + (k : Int)) (by omega)
        have ht := small_wraps (x := T) (by omega)
        have ht1 := small_wraps (x := 1 + T) (by omega)
        obtain ⟨z1, z2⟩ := byte_wraps hx
        obtain ⟨hw2, hw1⟩ := hw
        obtain ⟨t1, t2⟩ := ht
        obtain ⟨t3, t4⟩ := ht1
        rw [hT] at HAC
        have HK1 : Hid (k + 1 ≤ K) := q
        clear p0 hx hb HX hr hrT HNR'
        generalize gz ds k = x at *
        clear q hk
        go_wp2_with fail
        refine HAC.out.mono ?_
        rintro e w3 ⟨rfl, hA⟩
        have HX3 := hide hA
        clear hA HAC p0' z1 z2 t1 t2 t3 t4 hw1 hw2 hT q1 q2 nz nz2 nz3
        go_wp2_with fail
        go_roundw
        case rel => exact ⟨k + 1, by go_num, HK1.out, HX3⟩
        case measure =>
          have := HK1.out
          simp [intOf]; omega
      · have ek : k = K := by omega
        subst ek
        by_cases q1 : k < l1
        · have q1' : (k : Int) < (l1 : Int) := by omega
          have q2' : ¬ (k : Int) < 20 := by have := HKK.out; omega
          go_wp2_with fail
          go_meet
          exact ⟨rfl, HX⟩
        · have q1' : ¬ (k : Int) < (l1 : Int) := by omega
          go_wp2_with fail
          go_meet
          exact ⟨rfl, HX⟩
  case rest =>
    obtain ⟨rfl, HX⟩ := hcut
    clear HX2 HA1
    have hX0 : SO w M N (uOf N ds) K 0 0 wc := HX.out
    have HX0 := hide hX0
    clear hX0 HX
    have h20 : (K : Int) ≤ 20 := by have := HKK.out; omega
    have hNr := HNR.out
    obtain ⟨R0, hR0⟩ : ∃ R0 : Int, R0 = N + sumU (uOf N ds) 0 K := ⟨_, rfl⟩
    have HR0 := hide hR0
    have HRB : Hid (R0 ≤ 336) := hide (by have := HSUM.out K 0 (by omega); omega)
    have hs0 : (0 : Int) + N + sumU (uOf N ds) 0 (K - 0) = R0 := by rw [Nat.sub_zero, hR0]; omega
    have HS0 := hide hs0
    clear hR0 hs0 h20 hNr
    go_wp2_with fail
    go_loopw [8, 9, 10] (fun v8 v9 v10 wr => ∃ (p i : Nat) (f O : Int), v8 = .int .i64 (1 + (p : Int)) ∧ v9 = .int .i64 O ∧ v10 = .int .i64 (i : Int) ∧ p ≤ K ∧ Hid (O = N - f ∧ 0 ≤ f ∧ f ≤ N) ∧ Hid (p < K → f < uOf N ds p) ∧ Hid ((i : Int) + O + sumU (uOf N ds) p (K - p) = R0) ∧ Hid (SO w M N (uOf N ds) K p f wr)) (fun _ _ v10 _ => 400 - (intOf v10).toNat)
    case atStart => exact ⟨0, 0, 0, N, rfl, rfl, rfl, by omega, hide (by have := HNR.out; omega), hide (fun h => by have := HNUM.out.u 0 h; omega), HS0, HX0⟩
    case round =>
      clear HX0 HS0
      obtain ⟨p, i, f, O, rfl, rfl, rfl, hp, HOF, HHD, HPOT, HX⟩ := hrel
      have hi : (i : Int) ≤ 336 := by
        have := HPOT.out
        have := HSUM.out (K - p) p (by omega)
        have := HRB.out
        have := HOF.out
        omega
      have q1 : (i : Int) < 400 := by omega
      have HI := hide hi
      have h20 : (K : Int) ≤ 20 := by have := HKK.out; omega
      by_cases q : p < K
      · have q2 : (1 : Int) + (p : Int) ≤ (K : Int) := by omega
        obtain ⟨c, f2, g1, g2, g3, g4, g5, hC⟩ := HB1.out M p f wr q HOF.out.2.1 (by have := HHD.out q; have := HNUM.out.u p q; omega) HX.out
        have HCALL := hide hC
        have HG : Hid (p + c ≤ K ∧ f2 + sumU (uOf N ds) p c = f + 1 ∧ 0 ≤ f2 ∧ f2 ≤ N ∧ (p + c < K → f2 < uOf N ds (p + c))) := ⟨g1, g2, g3, g4, g5⟩
        have hO1 : 1 ≤ O ∧ O ≤ 16 := by have := HHD.out q; have := HNUM.out.u p q; have := HOF.out; have := HNR.out; omega
        have nz : (O == 0) = false := by simp; omega
        have HO1 := hide hO1
        have hi400 : (i : Int) + 1 ≤ 400 := by omega
        obtain ⟨o2, o1⟩ := small_wraps (x := O - 1) (by omega)
        clear hC g1 g2 g3 g4 g5 hO1 HX hi
        go_wp2_with fail
        refine HCALL.out.mono ?_
        rintro e w4 ⟨a4, d4, rfl, hz4, hx4⟩
        have HZ4 := hide hz4
        have HX4 := hide hx4
        clear hz4 hx4 HCALL nz
        go_wp2_with fail
        clear o1 o2 q1 q2
        have O0 : Hid ((O - 1 : Int) = O - 1 + sumU (uOf N ds) p 0) := hide (by show O - 1 = O - 1 + 0; omega)
        go_loop [8, 9, 13] (fun v8 v9 v13 => ∃ (j : Nat) (X Y : Int), v8 = .int .i64 X ∧ v9 = .int .i64 Y ∧ v13 = .int .i64 (j : Int) ∧ j ≤ c ∧ Hid (X = 1 + ((p + j : Nat) : Int)) ∧ Hid (Y = O - 1 + sumU (uOf N ds) p j)) (fun _ _ v13 => c - (intOf v13).toNat)
        case atStart => exact ⟨0, 1 + (p : Int), O - 1, rfl, rfl, rfl, by omega, hide rfl, O0⟩
        case round =>
          clear O0
          obtain ⟨j, X, Y, rfl, rfl, rfl, hj, HXX, HYY⟩ := hrel
          by_cases qj : j < c
          · have j1 : (j : Int) < (c : Int) := by omega
            have j0 : (0 : Int) ≤ (j : Int) := by omega
            obtain ⟨g, off4, rfl, hg4, hc4⟩ := HZ4.out (fun e => by have := congrArg List.length e; rw [up_len] at this; simp at this; omega)
            have pc := hc4 j (by rw [up_len]; exact qj)
            have hpK : p + j < K := by have := HG.out.1; omega
            obtain ⟨b, off, rfl, hb, p0, hx⟩ := HC.out (p + j) hpK
            have p0' := ((bcell HX4.out.2.2).1 _ _ hb).trans p0
            rw [up_gz _ _ _ qj, show (1 + (p : Int) + (j : Int)) = X by rw [HXX.out]; omega] at pc
            have xx : (X == X) = true := by simp
            have xI : IntKind.i64.wrap (X - 1) = ((p + j : Nat) : Int) := by rw [HXX.out, wrapB (by omega)]; omega
            have hlt : ((p + j : Nat) : Int) < (l1 : Int) := by have := HKK.out; omega
            have hge : (0 : Int) ≤ ((p + j : Nat) : Int) := by omega
            have hr := uOf_range (N := N) (ds := ds) (i := p + j) HNR.out.1 hx
            obtain ⟨T, hT⟩ : ∃ T, (gz ds (p + j)).tmod N = T := ⟨_, rfl⟩
            have hrT : 0 ≤ T ∧ T < N := by rw [← hT]; exact hr.2.2
            have HT : Hid (uOf N ds (p + j) = 1 + T) := hide (by unfold uOf; rw [hT])
            have HNR' := HNR.out
            have nz : (N == 0) = false := by simp; omega
            have nz2 : ¬ N = 0 := by omega
            have nz3 : decide (N = 0) = false := decide_eq_false (by omega)
            obtain ⟨Y2, hY2⟩ : ∃ Y2, Y + (1 + T) = Y2 := ⟨_, rfl⟩
            have hYb : 0 ≤ Y ∧ Y ≤ 1000 := by
              have := HSUM.out j p (by omega)
              have := HYY.out
              have := HO1.out
              omega
            have HY2 : Hid (Y2 = O - 1 + sumU (uOf N ds) p (j + 1)) := hide (by rw [sum_one, HT.out, ← hY2, HYY.out]; omega)
            have hXb : 0 ≤ X ∧ X ≤ 1000 := by have := HXX.out; omega
            obtain ⟨X2, hX2⟩ : ∃ X2, X + 1 = X2 := ⟨_, rfl⟩
            have HX2' : Hid (X2 = 1 + ((p + (j + 1) : Nat) : Int)) := hide (by rw [← hX2, HXX.out]; omega)
            have HJ : Hid (j + 1 ≤ c) := qj
            have hj20 : (j : Int) + 1 ≤ 20 := by have := HG.out.1; omega
            have ht := small_wraps (x := T) (by omega)
            have ht1 := small_wraps (x := 1 + T) (by omega)
            have hy2 := small_wraps (x := Y2) (by omega)
            have hx2 := small_wraps (x := X2) (by omega)
            have y1 : IntKind.i64.wrap (Y + (1 + T)) = Y2 := by rw [hY2]; exact hy2.2
            have y2 : wrap64 (Y + (1 + T)) = Y2 := by rw [hY2]; exact hy2.1
            have x1 : IntKind.i64.wrap (X + 1) = X2 := by rw [hX2]; exact hx2.2
            have x2 : wrap64 (X + 1) = X2 := by rw [hX2]; exact hx2.1
            obtain ⟨z1, z2⟩ := byte_wraps hx
            obtain ⟨t1, t2⟩ := ht
            obtain ⟨t3, t4⟩ := ht1
            clear p0 hx hb hr hrT HNR' hY2 hYb hXb hX2 HT HYY HXX hc4 qj hj hy2 hx2
            generalize gz ds (p + j) = x at *
            generalize p + j = pj at *
            go_wp2_with fail
            go_round
            case rel => exact ⟨j + 1, X2, Y2, rfl, rfl, by go_num, HJ.out, HX2', HY2⟩
            case measure => have := HJ.out; simp [intOf]; omega
          · have ej : j = c := by omega
            subst ej
            have HO2 : Hid (Y = N - f2 ∧ 0 ≤ f2 ∧ f2 ≤ N) := hide (by
              have a := HYY.out
              have b := HG.out
              have d := HOF.out
              refine ⟨by omega, b.2.2.1, b.2.2.2.1⟩)
            have HPOT2 : Hid (((i + 1 : Nat) : Int) + Y + sumU (uOf N ds) (p + j) (K - (p + j)) = R0) := hide (by
              have a := HYY.out
              have b := HPOT.out
              have d := sum_add (uOf N ds) j (K - (p + j)) p
              have g := HG.out.1
              rw [show j + (K - (p + j)) = K - p by omega] at d
              omega)
            have HHD2 : Hid (p + j < K → f2 < uOf N ds (p + j)) := HG.out.2.2.2.2
            have HPK : Hid (p + j ≤ K) := HG.out.1
            have hi336 : (i : Int) ≤ 336 := HI.out
            clear qj hj HYY HZ4 HO1 HPOT HHD HOF HG q hp
            go_wp2_with fail
            go_roundw
            case rel => exact ⟨p + j, i + 1, f2, Y, by rw [HXX.out], rfl, by go_num, HPK.out, HO2, HHD2, HPOT2, HX4⟩
            case measure => simp [intOf]; omega
      · have ep : K = p := by omega
        have q2 : ¬ (1 + (p : Int)) ≤ (K : Int) := by omega
        have HWT : Hid (∀ W, SO w M N (uOf N ds) K p f W → Calls Try.prog 14 #[.pointer (some ⟨M, 0, none⟩)] W fun e w' => ∃ a c, e = .returned (.slice a 0 c) ∧ Below w.heap.size w w') := hide fun W k => by
          have k' : Xs w M none0 ⟨N, f, qd (uOf N ds) p (K - p)⟩ W := k
          rw [ep, Nat.sub_self] at k'
          exact (x_waits (by simp [qd]) k').mono fun e w' q => by
            obtain ⟨a, c, q1, _, q3, _⟩ := q
            exact ⟨a, c, q1, q3.2.2⟩
        have HFR : Hid (∀ W, SO w M N (uOf N ds) K p f W → Calls Try.prog 11 #[.pointer (some ⟨M, 0, none⟩)] W fun e w' => e = .returned (.int .i64 f) ∧ w' = W) := hide fun W k => x_free k
        have e1 : ((1 + (p : Int)) == (K : Int) + 1) = true := by simp; omega
        have hOF := HOF.out
        have hNR := HNR.out
        have e2 : IntKind.i64.wrap (N - O) = f := by
          rw [show N - O = f by omega]
          exact wrapB (by omega)
        have e3 : wrap64 (N - O) = f := by
          rw [show N - O = f by omega]
          exact (small_wraps (by omega)).1
        have e4 : (f == f) = true := by simp
        have e5 := small_wraps (x := (K : Int) + 1) (by omega)
        obtain ⟨e6, e7⟩ := e5
        clear hOF hNR HPOT HHD HOF hi q ep hp h20
        go_wp2_with fail
        refine (awake_any _).mono ?_
        rintro e w4 ⟨rfl, hb4⟩
        have HX4 : Hid (SO w M N (uOf N ds) K p f w4) := hide (Xs.below HX.out hb4)
        clear hb4 HX
        go_wp2_with fail
        refine (HFR.out _ HX4.out).mono ?_
        rintro e w5 ⟨rfl, hw5⟩
        subst hw5
        go_wp2_with fail
        refine (HWT.out _ HX4.out).mono ?_
        rintro e w6 ⟨a6, c6, rfl, hb6⟩
        have HB6 := hide hb6
        clear hb6 HX4 HWT HFR
        go_wp2
        go_ret
        exact ⟨rfl, HB6.out⟩

end Go.Proofs.Ytgldhlcdnijecaa
