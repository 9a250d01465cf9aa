/-
  What the law SemaTries asks comes out true at any byte, any list of acts, any task and any number.
-/
import Derived.Test.YtgldhlcdnijecaaPlays
namespace Go.Proofs.Ytgldhlcdnijecaa
open Go.RowKit

theorem Bth.xs {W0 w : World} {M R : Nat} {F : Nat → Prop} {s l : Sm} (h : Bth W0 M R F s l w) : Xs W0 M F s w := by
  obtain ⟨h1, ⟨v, u, h2, h3, h4, h5⟩, h6⟩ := h
  exact ⟨h1.1, ⟨v, h2, fun k hk => ⟨(h5 k hk).1, (h5 k hk).2.1⟩⟩, h6⟩
theorem one_more {m : Nat} (h : m < 16) : IntKind.i64.wrap (1 + (m : Int)) = 1 + (m : Int) ∧ wrap64 (1 + (m : Int)) = 1 + (m : Int) := by
  refine ⟨wrapB (by omega), by unfold wrap64; omega⟩

set_option maxRecDepth 20000 in
set_option maxHeartbeats 8000000 in
theorem tries_walk (size : Int) (hsz : 0 ≤ size ∧ size ≤ 255) (a1 : Option Addr) (l1 c1 : Nat) (h1 : l1 ≤ c1) (g1 : c1 ≤ maxLen) (t n : Int) (w : World) (hact1 : Acts w a1 l1) : Calls Try.prog 6 #[.int .u8 size, .slice a1 l1 c1, .int .i64 t, .int .i64 n] w fun e w' => e = .returned (.bool true) ∧ Below w.heap.size w w' := by
  have hl1 : l1 ≤ maxLen := Nat.le_trans h1 g1
  unfold maxLen at hl1
  clear h1 g1
  have HA1 := hide hact1
  clear hact1
  obtain ⟨m, hm, hm16, hm3, hm64⟩ := u8_mod hsz 16 (by omega) (by omega)
  have HMM : Hid ((size.tmod 16 = (m : Int) ∧ wrap64 (m : Int) = (m : Int)) ∧ (IntKind.i64.wrap (1 + (m : Int)) = 1 + (m : Int) ∧ wrap64 (1 + (m : Int)) = 1 + (m : Int))) := ⟨⟨hm, hm64⟩, one_more hm16⟩
  clear hm hm3 hm64 hm16 hsz
  have N0 := hide (x_new (w := w) (1 + (m : Int)))
  have R0 := hide (fun W => rnew_any (1 + (m : Int)) W)
  have HOK0 := hide (new_ok (1 + (m : Int)))
  obtain ⟨s0, hs0⟩ : ∃ s0, newS (1 + (m : Int)) = s0 := ⟨_, rfl⟩
  have HS0 := hide hs0
  rw [hs0] at N0 HOK0
  have hq0 : s0.q.length ≤ 0 := by rw [← hs0]; exact Nat.le_refl 0
  clear hs0
  obtain ⟨⟨y1, y2⟩, y3, y4⟩ := HMM.out
  go_enter Try.func6, Try.ntmps6
  go_wp2_with fail
  clear y1 y2 y3 y4
  refine N0.out.mono ?_
  rintro e w1 ⟨rfl, hA⟩
  have HX := hide hA
  obtain ⟨M, hMe⟩ : ∃ M, M = w.heap.size := ⟨_, rfl⟩
  have HM := hide hMe
  rw [← hMe]
  clear hA N0 hMe
  obtain ⟨⟨y1, y2⟩, y3, y4⟩ := HMM.out
  go_wp2_with fail
  clear y1 y2 y3 y4 HMM
  refine (R0.out w1).mono ?_
  rintro e w2 ⟨rfl, hR, hb2⟩
  rw [HS0.out] at hR
  have HB0 : Hid (Bth w w.heap.size w1.heap.size none0 s0 s0 w2) := hide (by
    have hx := HX.out
    rw [← HS0.out] at hx hR ⊢
    exact Bth.start hx hR hb2)
  obtain ⟨R, hRe⟩ : ∃ R, R = w1.heap.size := ⟨_, rfl⟩
  rw [← HM.out, ← hRe] at HB0
  rw [← hRe]
  clear hR hb2 hRe HX HM HS0 R0
  go_wp2_with fail
  go_loopw [11] (fun i wr => ∃ k s, i = .int .i64 ((k : Nat) : Int) ∧ k ≤ 30 ∧ k ≤ l1 ∧ Hid (Okw s) ∧ List.length (Sm.q s) ≤ k ∧ Hid (Bth w M R none0 s s wr)) (fun i _ => 30 - (intOf i).toNat)
  case atStart => exact ⟨0, s0, rfl, by omega, by omega, HOK0, hq0, HB0⟩
  case round =>
    clear HB0 HOK0 hq0
    obtain ⟨k, s, rfl, hk60, hkl, HO, hlen, HB⟩ := hrel
    by_cases q : k < l1 ∧ k < 30
    · obtain ⟨q1, q2⟩ := q
      have q1' : (k : Int) < (l1 : Int) := by omega
      have q2' : (k : Int) < 30 := by omega
      have q0' : (0 : Int) ≤ (k : Int) := by omega
      obtain ⟨b2, off2, d, t2, n2, rfl, hlt2, p0, p1, p2, hd, _⟩ := HA1.out k q1
      have p0' := ((bcell HB.out.2.2).1 _ _ hlt2).trans p0
      have p1' := ((bcell HB.out.2.2).1 _ _ hlt2).trans p1
      have p2' := ((bcell HB.out.2.2).1 _ _ hlt2).trans p2
      have hk1 : k + 1 ≤ 30 ∧ k + 1 ≤ l1 := by omega
      have HD := hide (does_any w M R s HO.out (by omega) d t2 n2 hd wr HB.out)
      clear p0 p1 p2 hd HO HB
      generalize doesS s d t2 n2 = s2 at *
      go_wp2_with fail
      refine HD.out.mono ?_
      rintro e w3 ⟨rfl, hO3, hl3, _, hB3⟩
      have HO3 := hide hO3
      have HB3 := hide hB3
      have hlen2 : s2.q.length ≤ k + 1 := by omega
      clear hO3 hl3 hB3 HD p0' p1' p2'
      go_wp2_with fail
      go_roundw
      case rel => exact ⟨k + 1, s2, by go_num, hk1.1, hk1.2, HO3, hlen2, HB3⟩
      case measure => simp [intOf]; omega
    · have HX := hide HB.out.xs
      have hl : s.q.length ≤ 1000 := by omega
      obtain ⟨f, hf⟩ : ∃ f, s.f = f := ⟨_, rfl⟩
      have HF := hide hf
      obtain ⟨QL, hQL⟩ : ∃ QL, (ts s.q).length = QL := ⟨_, rfl⟩
      have HQ := hide hQL
      have HWT : Hid (∀ F W, Xs w M F s W → Calls Try.prog 14 #[.pointer (some ⟨M, 0, none⟩)] W fun e w' => ∃ a c, e = .returned (.slice a QL c) ∧ RowF (fun k => F k ∨ adr (ts s.q) a k) w' a (ts s.q) ∧ Xs w M (fun k => F k ∨ adr (ts s.q) a k) s w' ∧ Kept F W w') := hide fun F W kW => by
        have := x_waits hl kW
        rw [hQL] at this
        exact this
      have HIN : Hid (∀ a1 a2 c1 c2 W, RowZ W a1 (ts s.q) → RowZ W a2 (ts s.q) → Calls Try.prog 13 #[.slice a1 QL c1, .slice a2 QL c2] W fun e w' => e = .returned (.bool true) ∧ Below W.heap.size W w') := hide fun a1 a2 c1 c2 W k1 k2 => by
        have := same_ints a1 a2 c1 c2 (ts s.q) W (by rw [ts_len]; omega) k1 k2
        rw [hQL] at this
        exact this
      have HTR : Hid (∀ F W, Xs w M F s W → Calls Try.prog 19 #[.pointer (some ⟨M, 0, none⟩), .int .i64 t, .int .i64 n] W fun e w' => e = .returned (.int .i64 (tryE s t n)) ∧ Xs w M F (tryS s t n) w' ∧ Kept F W w') := hide fun F W kW => x_try HO.out hl t n kW
      have HC := hide (try_cases s t n)
      have hf0 := HO.out.f0
      have hfn := HO.out.fn
      have hf16 := HO.out.n16
      have HFB : Hid (0 ≤ f ∧ f ≤ 16) := hide (by omega)
      have HSZ : Hid (tryE s t n ≠ 0 → tryS s t n = s) := hide (fun h => if_neg h)
      have HS0 : Hid (tryE s t n = 0 → (tryS s t n).f = f - n) := hide (fun h => by rw [show tryS s t n = ⟨s.n, s.f - n, s.q⟩ from if_pos h]; exact congrArg (· - n) hf)
      have HQQ : Hid (s.q.length = QL) := hide (by rw [← hQL, ts_len])
      clear hf hQL hf0 hfn hf16 HO hlen hl HB
      obtain ⟨E0, hE0⟩ : ∃ E0, tryE s t n = E0 := ⟨_, rfl⟩
      rw [hE0] at HTR HC HSZ HS0
      clear hE0
      have out1 : ¬ ((k : Int) < (l1 : Int)) ∨ ((k : Int) < (l1 : Int) ∧ ¬ ((k : Int) < 30)) := by omega
      have HOUT := hide out1
      clear out1 q hk60 hkl
      rcases HOUT.out with hh1 | ⟨hh1, hh2⟩
      · clear HOUT
        go_wp2_with fail
        refine (x_free HX.out).mono ?_
        rintro e w3 ⟨rfl, hw3⟩
        subst hw3
        rw [HF.out]
        go_wp2_with fail
        refine (HWT.out _ _ HX.out).mono ?_
        rintro e w4 ⟨a4, c4, rfl, hr4, hx4, _⟩
        have HR4 := hide hr4
        have HX4 := hide hx4
        clear hr4 hx4 HX
        go_wp2_with fail
        refine (HTR.out _ _ HX4.out).mono ?_
        rintro e w5 ⟨rfl, hx5, hk5⟩
        have HX5 := hide hx5
        have HR5 := hide (HR4.out.kept hk5)
        clear hx5 hk5 HX4 HR4 HTR
        rcases HC.out with ⟨e0, _⟩ | ⟨e0, _⟩ | ⟨e0, _, _, _, h4⟩ | ⟨e0, h1, h2, _, h4, h5⟩
        · subst e0
          rw [HSZ.out (by decide)] at HX5
          clear HSZ HS0 HC HQQ HFB
          go_wp2_with fail
          refine (awake_any _).mono ?_
          rintro e w6 ⟨rfl, hb6⟩
          have HX6 := hide (HX5.out.below hb6)
          have HR6 := hide (HR5.out.kept (HX5.out.frame hb6))
          clear hb6 HX5 HR5
          go_wp2_with fail
          refine (x_free HX6.out).mono ?_
          rintro e w7 ⟨rfl, hw7⟩
          subst hw7
          rw [HF.out]
          have ff : (f == f) = true := by simp
          go_wp2_with fail
          refine (HWT.out _ _ HX6.out).mono ?_
          rintro e w8 ⟨a8, c8, rfl, hr8, hx8, hk8⟩
          have HI := hide (HIN.out a8 a4 c8 c4 _ hr8.row (HR6.out.kept hk8).row)
          have HB8 := hide hx8.2.2
          clear hr8 hx8 hk8 HR6 HX6 HWT HIN
          go_wp2_with fail
          refine HI.out.mono ?_
          rintro e w9 ⟨rfl, hb9⟩
          have HB9 := hide (below_next HB8.out hb9)
          clear hb9 HB8 HI
          go_wp2
          go_ret
          exact ⟨rfl, HB9.out⟩
        · subst e0
          rw [HSZ.out (by decide)] at HX5
          clear HSZ HS0 HC HQQ HFB
          go_wp2_with fail
          refine (awake_any _).mono ?_
          rintro e w6 ⟨rfl, hb6⟩
          have HX6 := hide (HX5.out.below hb6)
          have HR6 := hide (HR5.out.kept (HX5.out.frame hb6))
          clear hb6 HX5 HR5
          go_wp2_with fail
          refine (x_free HX6.out).mono ?_
          rintro e w7 ⟨rfl, hw7⟩
          subst hw7
          rw [HF.out]
          have ff : (f == f) = true := by simp
          go_wp2_with fail
          refine (HWT.out _ _ HX6.out).mono ?_
          rintro e w8 ⟨a8, c8, rfl, hr8, hx8, hk8⟩
          have HI := hide (HIN.out a8 a4 c8 c4 _ hr8.row (HR6.out.kept hk8).row)
          have HB8 := hide hx8.2.2
          clear hr8 hx8 hk8 HR6 HX6 HWT HIN
          go_wp2_with fail
          refine HI.out.mono ?_
          rintro e w9 ⟨rfl, hb9⟩
          have HB9 := hide (below_next HB8.out hb9)
          clear hb9 HB8 HI
          go_wp2
          go_ret
          exact ⟨rfl, HB9.out⟩
        · by_cases h5 : 0 < s.q.length
          · subst e0
            have g1 : (0 : Int) < (QL : Int) := by have := HQQ.out; omega
            rw [HSZ.out (by decide)] at HX5
            clear HSZ HS0 HC HQQ HFB
            go_wp2_with fail
            refine (awake_any _).mono ?_
            rintro e w6 ⟨rfl, hb6⟩
            have HX6 := hide (HX5.out.below hb6)
            have HR6 := hide (HR5.out.kept (HX5.out.frame hb6))
            clear hb6 HX5 HR5
            go_wp2_with fail
            refine (x_free HX6.out).mono ?_
            rintro e w7 ⟨rfl, hw7⟩
            subst hw7
            rw [HF.out]
            have ff : (f == f) = true := by simp
            go_wp2_with fail
            refine (HWT.out _ _ HX6.out).mono ?_
            rintro e w8 ⟨a8, c8, rfl, hr8, hx8, hk8⟩
            have HI := hide (HIN.out a8 a4 c8 c4 _ hr8.row (HR6.out.kept hk8).row)
            have HB8 := hide hx8.2.2
            clear hr8 hx8 hk8 HR6 HX6 HWT HIN
            go_wp2_with fail
            refine HI.out.mono ?_
            rintro e w9 ⟨rfl, hb9⟩
            have HB9 := hide (below_next HB8.out hb9)
            clear hb9 HB8 HI
            go_wp2
            go_ret
            exact ⟨rfl, HB9.out⟩

          · have h6 := h4.resolve_left h5
            clear h4
            subst e0
            have g0 : decide ((0 : Int) < (QL : Int)) = false := decide_eq_false (by have := HQQ.out; omega)
            have g9 : decide (0 < QL) = false := decide_eq_false (by have := HQQ.out; omega)
            have g1 : f < n := by have := HF.out; omega
            rw [HSZ.out (by decide)] at HX5
            clear HSZ HS0 HC HQQ HFB
            go_wp2_with fail
            refine (awake_any _).mono ?_
            rintro e w6 ⟨rfl, hb6⟩
            have HX6 := hide (HX5.out.below hb6)
            have HR6 := hide (HR5.out.kept (HX5.out.frame hb6))
            clear hb6 HX5 HR5
            go_wp2_with fail
            refine (x_free HX6.out).mono ?_
            rintro e w7 ⟨rfl, hw7⟩
            subst hw7
            rw [HF.out]
            have ff : (f == f) = true := by simp
            go_wp2_with fail
            refine (HWT.out _ _ HX6.out).mono ?_
            rintro e w8 ⟨a8, c8, rfl, hr8, hx8, hk8⟩
            have HI := hide (HIN.out a8 a4 c8 c4 _ hr8.row (HR6.out.kept hk8).row)
            have HB8 := hide hx8.2.2
            clear hr8 hx8 hk8 HR6 HX6 HWT HIN
            go_wp2_with fail
            refine HI.out.mono ?_
            rintro e w9 ⟨rfl, hb9⟩
            have HB9 := hide (below_next HB8.out hb9)
            clear hb9 HB8 HI
            go_wp2
            go_ret
            exact ⟨rfl, HB9.out⟩
        · subst e0
          have hf5 := HS0.out rfl
          have q0 : QL = 0 := by rw [← HQQ.out, h4]; rfl
          subst q0
          have g1 : decide (1 ≤ n) = true := decide_eq_true h2.1
          have g2 : decide (n ≤ f) = true := decide_eq_true (by rw [← HF.out]; exact h5)
          have g3 : decide (1 ≤ t) = true := decide_eq_true (by omega)
          have g4 : IntKind.i64.wrap (f - n) = f - n := wrapB (by have := HFB.out; have := h2.1; have := HF.out; omega)
          obtain ⟨D, hD⟩ : ∃ D, f - n = D := ⟨_, rfl⟩
          have HDD := hide hD
          rw [hD] at g4 hf5
          have g5 : IntKind.i64.wrap (f - n) = D := by rw [hD]; exact g4
          have g6 : (D == D) = true := by simp
          have HF5 := hide hf5
          generalize tryS s t n = s5 at *
          clear HSZ HS0 HC HQQ HFB HWT HIN HR5 g4 hD hf5 h1 h2 h4 h5
          go_wp2_with fail
          refine (awake_any _).mono ?_
          rintro e w6 ⟨rfl, hb6⟩
          have HX6 := hide (HX5.out.below hb6)
          clear hb6 HX5
          go_wp2_with fail
          refine (x_free HX6.out).mono ?_
          rintro e w7 ⟨rfl, hw7⟩
          subst hw7
          rw [HF5.out]
          have HB7 := hide HX6.out.2.2
          clear HX6 HF5
          go_wp2
          go_ret
          exact ⟨rfl, HB7.out⟩
      · clear HOUT
        go_wp2_with fail
        refine (x_free HX.out).mono ?_
        rintro e w3 ⟨rfl, hw3⟩
        subst hw3
        rw [HF.out]
        go_wp2_with fail
        refine (HWT.out _ _ HX.out).mono ?_
        rintro e w4 ⟨a4, c4, rfl, hr4, hx4, _⟩
        have HR4 := hide hr4
        have HX4 := hide hx4
        clear hr4 hx4 HX
        go_wp2_with fail
        refine (HTR.out _ _ HX4.out).mono ?_
        rintro e w5 ⟨rfl, hx5, hk5⟩
        have HX5 := hide hx5
        have HR5 := hide (HR4.out.kept hk5)
        clear hx5 hk5 HX4 HR4 HTR
        rcases HC.out with ⟨e0, _⟩ | ⟨e0, _⟩ | ⟨e0, _, _, _, h4⟩ | ⟨e0, h1, h2, _, h4, h5⟩
        · subst e0
          rw [HSZ.out (by decide)] at HX5
          clear HSZ HS0 HC HQQ HFB
          go_wp2_with fail
          refine (awake_any _).mono ?_
          rintro e w6 ⟨rfl, hb6⟩
          have HX6 := hide (HX5.out.below hb6)
          have HR6 := hide (HR5.out.kept (HX5.out.frame hb6))
          clear hb6 HX5 HR5
          go_wp2_with fail
          refine (x_free HX6.out).mono ?_
          rintro e w7 ⟨rfl, hw7⟩
          subst hw7
          rw [HF.out]
          have ff : (f == f) = true := by simp
          go_wp2_with fail
          refine (HWT.out _ _ HX6.out).mono ?_
          rintro e w8 ⟨a8, c8, rfl, hr8, hx8, hk8⟩
          have HI := hide (HIN.out a8 a4 c8 c4 _ hr8.row (HR6.out.kept hk8).row)
          have HB8 := hide hx8.2.2
          clear hr8 hx8 hk8 HR6 HX6 HWT HIN
          go_wp2_with fail
          refine HI.out.mono ?_
          rintro e w9 ⟨rfl, hb9⟩
          have HB9 := hide (below_next HB8.out hb9)
          clear hb9 HB8 HI
          go_wp2
          go_ret
          exact ⟨rfl, HB9.out⟩
        · subst e0
          rw [HSZ.out (by decide)] at HX5
          clear HSZ HS0 HC HQQ HFB
          go_wp2_with fail
          refine (awake_any _).mono ?_
          rintro e w6 ⟨rfl, hb6⟩
          have HX6 := hide (HX5.out.below hb6)
          have HR6 := hide (HR5.out.kept (HX5.out.frame hb6))
          clear hb6 HX5 HR5
          go_wp2_with fail
          refine (x_free HX6.out).mono ?_
          rintro e w7 ⟨rfl, hw7⟩
          subst hw7
          rw [HF.out]
          have ff : (f == f) = true := by simp
          go_wp2_with fail
          refine (HWT.out _ _ HX6.out).mono ?_
          rintro e w8 ⟨a8, c8, rfl, hr8, hx8, hk8⟩
          have HI := hide (HIN.out a8 a4 c8 c4 _ hr8.row (HR6.out.kept hk8).row)
          have HB8 := hide hx8.2.2
          clear hr8 hx8 hk8 HR6 HX6 HWT HIN
          go_wp2_with fail
          refine HI.out.mono ?_
          rintro e w9 ⟨rfl, hb9⟩
          have HB9 := hide (below_next HB8.out hb9)
          clear hb9 HB8 HI
          go_wp2
          go_ret
          exact ⟨rfl, HB9.out⟩
        · by_cases h5 : 0 < s.q.length
          · subst e0
            have g1 : (0 : Int) < (QL : Int) := by have := HQQ.out; omega
            rw [HSZ.out (by decide)] at HX5
            clear HSZ HS0 HC HQQ HFB
            go_wp2_with fail
            refine (awake_any _).mono ?_
            rintro e w6 ⟨rfl, hb6⟩
            have HX6 := hide (HX5.out.below hb6)
            have HR6 := hide (HR5.out.kept (HX5.out.frame hb6))
            clear hb6 HX5 HR5
            go_wp2_with fail
            refine (x_free HX6.out).mono ?_
            rintro e w7 ⟨rfl, hw7⟩
            subst hw7
            rw [HF.out]
            have ff : (f == f) = true := by simp
            go_wp2_with fail
            refine (HWT.out _ _ HX6.out).mono ?_
            rintro e w8 ⟨a8, c8, rfl, hr8, hx8, hk8⟩
            have HI := hide (HIN.out a8 a4 c8 c4 _ hr8.row (HR6.out.kept hk8).row)
            have HB8 := hide hx8.2.2
            clear hr8 hx8 hk8 HR6 HX6 HWT HIN
            go_wp2_with fail
            refine HI.out.mono ?_
            rintro e w9 ⟨rfl, hb9⟩
            have HB9 := hide (below_next HB8.out hb9)
            clear hb9 HB8 HI
            go_wp2
            go_ret
            exact ⟨rfl, HB9.out⟩

          · have h6 := h4.resolve_left h5
            clear h4
            subst e0
            have g0 : decide ((0 : Int) < (QL : Int)) = false := decide_eq_false (by have := HQQ.out; omega)
            have g9 : decide (0 < QL) = false := decide_eq_false (by have := HQQ.out; omega)
            have g1 : f < n := by have := HF.out; omega
            rw [HSZ.out (by decide)] at HX5
            clear HSZ HS0 HC HQQ HFB
            go_wp2_with fail
            refine (awake_any _).mono ?_
            rintro e w6 ⟨rfl, hb6⟩
            have HX6 := hide (HX5.out.below hb6)
            have HR6 := hide (HR5.out.kept (HX5.out.frame hb6))
            clear hb6 HX5 HR5
            go_wp2_with fail
            refine (x_free HX6.out).mono ?_
            rintro e w7 ⟨rfl, hw7⟩
            subst hw7
            rw [HF.out]
            have ff : (f == f) = true := by simp
            go_wp2_with fail
            refine (HWT.out _ _ HX6.out).mono ?_
            rintro e w8 ⟨a8, c8, rfl, hr8, hx8, hk8⟩
            have HI := hide (HIN.out a8 a4 c8 c4 _ hr8.row (HR6.out.kept hk8).row)
            have HB8 := hide hx8.2.2
            clear hr8 hx8 hk8 HR6 HX6 HWT HIN
            go_wp2_with fail
            refine HI.out.mono ?_
            rintro e w9 ⟨rfl, hb9⟩
            have HB9 := hide (below_next HB8.out hb9)
            clear hb9 HB8 HI
            go_wp2
            go_ret
            exact ⟨rfl, HB9.out⟩
        · subst e0
          have hf5 := HS0.out rfl
          have q0 : QL = 0 := by rw [← HQQ.out, h4]; rfl
          subst q0
          have g1 : decide (1 ≤ n) = true := decide_eq_true h2.1
          have g2 : decide (n ≤ f) = true := decide_eq_true (by rw [← HF.out]; exact h5)
          have g3 : decide (1 ≤ t) = true := decide_eq_true (by omega)
          have g4 : IntKind.i64.wrap (f - n) = f - n := wrapB (by have := HFB.out; have := h2.1; have := HF.out; omega)
          obtain ⟨D, hD⟩ : ∃ D, f - n = D := ⟨_, rfl⟩
          have HDD := hide hD
          rw [hD] at g4 hf5
          have g5 : IntKind.i64.wrap (f - n) = D := by rw [hD]; exact g4
          have g6 : (D == D) = true := by simp
          have HF5 := hide hf5
          generalize tryS s t n = s5 at *
          clear HSZ HS0 HC HQQ HFB HWT HIN HR5 g4 hD hf5 h1 h2 h4 h5
          go_wp2_with fail
          refine (awake_any _).mono ?_
          rintro e w6 ⟨rfl, hb6⟩
          have HX6 := hide (HX5.out.below hb6)
          clear hb6 HX5
          go_wp2_with fail
          refine (x_free HX6.out).mono ?_
          rintro e w7 ⟨rfl, hw7⟩
          subst hw7
          rw [HF5.out]
          have HB7 := hide HX6.out.2.2
          clear HX6 HF5
          go_wp2
          go_ret
          exact ⟨rfl, HB7.out⟩

end Go.Proofs.Ytgldhlcdnijecaa
