/-
  What slices' sorting comes to at sixteen numbers or fewer, no two of which are alike.
-/
import Derived.Test.YtnciefdhgokffaaDueA
import Derived.Test.YtnciefdhgokffaaPart
import Derived.Test.YtnciefdhgokffaaBrk
import Derived.Test.YtnciefdhgokffaaPdm
namespace Go.Proofs.Ytnciefdhgokffaa
open Go.RowKit

/-- All is in order, and strictly. -/
def Done (w0 : World) (g c n B : Nat) (σ : Ws) (x : Nat → Nat) (e : Ending) (w' : World) : Prop :=
  e = .returned (.tuple #[]) ∧ ∃ y, Sw 0 n x y ∧ (∀ p q, p < q → q < n → key σ (y p) < key σ (y q)) ∧ Srt w0 g c n B σ y w'

/-- The loop's slots. -/
def PdV (w0 : World) (g c n B : Nat) (σ : Ws) (x : Nat → Nat) (v1 v2 v3 v10 v11 : Value) (W : World) : Prop :=
  ∃ (lo hi lim : Nat) (y : Nat → Nat) (b1 b2 : Bool), v1 = .int .i64 (lo : Int) ∧ v2 = .int .i64 (hi : Int) ∧ v3 = .int .i64 (lim : Int) ∧ v10 = .bool b1 ∧ v11 = .bool b2 ∧
    hi - lo ≤ lim + 11 ∧ lim ≤ 100 ∧ (b1 = false → hi - lo ≤ 15) ∧ Pd w0 g c n B σ x lo hi y W

theorem sub_facts {lo hi L : Nat} (h1 : lo + L ≤ hi) (h2 : hi ≤ lo + L) (hh : hi ≤ 16) : IntKind.i64.wrap ((hi : Int) - (lo : Int)) = (L : Int) ∧ wrap64 ((hi : Int) - (lo : Int)) = (L : Int) :=
  ⟨by rw [wrapB (by omega)]; omega, by rw [IntWalk.wrap64_in _ (by omega)]; omega⟩

theorem pred_facts {lo m : Nat} (h1 : lo ≤ m + 1) (h2 : m + 1 ≤ lo) (hh : lo ≤ 100) : IntKind.i64.wrap ((lo : Int) - 1) = (m : Int) ∧ wrap64 ((lo : Int) - 1) = (m : Int) :=
  ⟨by rw [wrapB (by omega)]; omega, by rw [IntWalk.wrap64_in _ (by omega)]; omega⟩
theorem div_facts (L : Nat) : ∃ T : Nat, (L : Int).tdiv 8 = (T : Int) ∧ (L : Int) / 8 = (T : Int) := ⟨L / 8, by rw [Int.tdiv_eq_ediv_of_nonneg (by omega)]; omega, by omega⟩
theorem small_left {lo hi mid L lim : Nat} (h1 : lo + L ≤ hi) (h2 : hi ≤ lo + L) (h3 : L ≤ lim + 12) (h4 : lo ≤ mid) (h5 : mid < hi) (h6 : hi ≤ 16) : hi - (mid + 1) ≤ lim + 11 ∧ hi - (mid + 1) ≤ 15 ∧ hi - (mid + 1) < hi - lo := ⟨by omega, by omega, by omega⟩
theorem small_right {lo hi mid L lim : Nat} (h1 : lo + L ≤ hi) (h2 : hi ≤ lo + L) (h3 : L ≤ lim + 12) (h4 : lo ≤ mid) (h5 : mid < hi) (h6 : hi ≤ 16) : mid - lo ≤ lim + 11 ∧ mid - lo ≤ 15 ∧ mid - lo < hi - lo := ⟨by omega, by omega, by omega⟩
theorem m_left {lo hi mid : Nat} (h : hi - (mid + 1) < hi - lo) : (intOf (.int .i64 (hi : Int))).toNat - (intOf (.int .i64 ((mid : Int) + 1))).toNat < (intOf (.int .i64 (hi : Int))).toNat - (intOf (.int .i64 (lo : Int))).toNat := by simp only [intOf]; omega
theorem m_right {lo hi mid : Nat} (h : mid - lo < hi - lo) : (intOf (.int .i64 (mid : Int))).toNat - (intOf (.int .i64 (lo : Int))).toNat < (intOf (.int .i64 (hi : Int))).toNat - (intOf (.int .i64 (lo : Int))).toNat := by simp only [intOf]; omega

set_option maxHeartbeats 16000000 in
set_option maxRecDepth 100000 in
theorem pdq_any (KK : Nat) (hKK : KK ≤ 1000000) (w0 : World) (g c n B : Nat) (σ : Ws) (hO : Ok KK σ) (hn : n ≤ 16) (hg : g < w0.heap.size) (hB : B < w0.heap.size) (lim : Nat) (hlim : n ≤ lim + 11) (hlim2 : lim ≤ 100) (x : Nat → Nat)
    (hone : ∀ p q, p < n → q < n → key σ (x p) = key σ (x q) → p = q) (w : World) (hS : Srt w0 g c n B σ x w) :
    Calls Try.prog 28 #[.slice (some ⟨g, 0, none⟩) n c, .int .i64 0, .int .i64 (n : Int), .int .i64 (lim : Int), .func (.func 24) #[.pointer (some ⟨B, 0, none⟩)] #[]] w fun e w' => Done w0 g c n B σ x e w' := by
  have HL := hide (fun a b => ordI_lt hKK hO a b)
  have TI := hide (fun lo hi (h1 : lo ≤ hi) (h2 : hi ≤ n) y W (h : Srt w0 g c n B σ y W) => ins_any KK hKK w0 g c n B σ hO hn lo hi h1 h2 y W h)
  have TB := hide (fun lo hi L (h1 : 13 ≤ L) (h2 : L ≤ 15) (h3 : lo + L ≤ n) (h4 : lo + L ≤ hi) (h5 : hi ≤ lo + L) y W (h : Srt w0 g c n B σ y W) => break_any w0 g c n B σ hn hg hB y lo L h1 h2 h3 hi h4 h5 W h)
  have TP := hide (fun lo hi (h1 : lo + 12 < hi) (h2 : hi ≤ n) y W (h : Srt w0 g c n B σ y W) => pivot_any w0 g c n B σ hn hg hB y lo hi h1 h2 W h)
  have TQ := hide (fun lo hi (h1 : lo < hi) (h2 : hi ≤ n) y W (h : Srt w0 g c n B σ y W) => tried_any KK hKK w0 g c n B σ hO hn lo hi h1 h2 y W h)
  have TS := hide (fun lo hi pv (h1 : lo + 1 < hi) (h2 : hi ≤ n) (h3 : lo ≤ pv) (h4 : pv < hi) y W (h : Srt w0 g c n B σ y W) => partition_any KK hKK w0 g c n B σ hO hn lo hi pv h1 h2 h3 h4 y W h)
  have TF := hide (fun lo hi (h1 : lo ≤ hi) (h2 : hi ≤ n) (h3 : hi - lo ≤ 12) lim y W (h : Srt w0 g c n B σ y W) => pdq_few KK hKK w0 g c n B σ hO hn lo hi h1 h2 h3 lim y W h)
  have H0 : Hid (Pd w0 g c n B σ x 0 n x w) := hide ⟨Nat.zero_le _, Nat.le_refl _, .refl, fun p q h => by omega, fun p q h1 h2 h3 => by omega, hone, hS⟩
  clear hS hone hO
  go_enter Try.func28, Try.ntmps28
  go_wp2
  go_loopw [1, 2, 3, 10, 11] (fun v1 v2 v3 v10 v11 wr => PdV w0 g c n B σ x v1 v2 v3 v10 v11 wr) (fun v1 v2 _ _ _ _ => (intOf v2).toNat - (intOf v1).toNat)
  case atStart => exact ⟨0, n, lim, x, true, true, rfl, rfl, rfl, rfl, rfl, by omega, hlim2, (fun h => by simp at h), H0.out⟩
  case round =>
    clear H0 hlim hlim2
    obtain ⟨lo, hi, lim, y, b1, b2, rfl, rfl, rfl, rfl, rfl, hl1, hl2, hb1, hpd⟩ := hrel
    have HP := hide hpd
    have p1 := hpd.a
    have p2 := hpd.b
    have hhi16 : hi ≤ 16 := by omega
    obtain ⟨L, hL1, hL2⟩ : ∃ L, lo + L ≤ hi ∧ hi ≤ lo + L := ⟨hi - lo, by omega, by omega⟩
    clear hpd
    by_cases h12 : L ≤ 12
    · have hd : decide (L ≤ 12) = true := by simp; omega
      have hd2 : decide ((L : Int) ≤ 12) = true := by simp; omega
      obtain ⟨a1, a2⟩ := sub_facts hL1 hL2 hhi16
      go_wp2_with (go_at_call 33; refine (TI.out lo hi p1 p2 y _ HP.out.srt).mono ?_; rintro e w' ⟨rfl, z, hz1, hz2, hz3⟩)
      (try simp only [Exit.inBlock, Exit.then])
      refine bodyPost_ret (results_none rfl _ _ _) rfl ?_
      have k := HP.out.swap hz1 hz3
      exact ⟨rfl, z, k.sw, k.last hz2, hz3⟩
    · have hd : decide (L ≤ 12) = false := by simp; omega
      have hd2 : decide ((L : Int) ≤ 12) = false := by simp; omega
      have hz0 : (lim == 0) = false := by simp; omega
      have hz1 : ((lim : Int) == 0) = false := by simp; omega
      have hL13 : 13 ≤ L := by omega
      have hL3 : lo + L ≤ n := by omega
      have hlo12 : lo + 12 < hi := by omega
      have hlohi : lo < hi := by omega
      have hlohi2 : lo + 1 < hi := by omega
      have hLl : L ≤ lim + 11 := by omega
      have hb15 : b1 = false → L ≤ 15 := fun h => by have := hb1 h; omega
      obtain ⟨lim1, hm1, hm2⟩ : ∃ lim1, lim ≤ lim1 + 1 ∧ lim1 + 1 ≤ lim := ⟨lim - 1, by omega, by omega⟩
      have hA1 : L ≤ lim + 12 := by omega
      have hA2 : L ≤ lim1 + 12 ∧ lim1 ≤ 100 := by omega
      clear hb1 hl1 h12 hLl p1
      obtain ⟨a1, a2⟩ := sub_facts hL1 hL2 hhi16
      obtain ⟨a3, a4⟩ := pred_facts hm1 hm2 hl2
      go_upto_if 39 with fail
      go_cut [3] (fun v3 w' => ∃ (lim' : Nat) (y' : Nat → Nat), v3 = .int .i64 (lim' : Int) ∧ L ≤ lim' + 12 ∧ lim' ≤ 100 ∧ Hid (Pd w0 g c n B σ x lo hi y' w'))
      case first =>
        cases b1
        · have h15 := hb15 rfl
          go_wp2_with (go_at_call 35; refine (TB.out lo hi L hL13 h15 hL3 hL1 hL2 y _ HP.out.srt).mono ?_; rintro e w1 ⟨rfl, z, hz1, hz3⟩)
          go_meet
          exact ⟨lim1, z, rfl, hA2.1, hA2.2, hide (HP.out.swap hz1 hz3)⟩
        · go_wp2_with fail
          go_meet
          exact ⟨lim, y, rfl, hA1, hl2, HP⟩
      case rest =>
        clear HP hA1 hA2 a3 a4 hm1 hm2 hl2 hz0 hz1 hb15
        obtain ⟨lim', y', rfl, hA, hA', HP⟩ := hcut
        go_wp2_with fail
        refine (TP.out lo hi hlo12 p2 y' _ HP.out.srt).mono ?_
        rintro e w1 ⟨q, t, rfl, hq1, hq2, ht, hs1⟩
        replace HP : Hid (Pd w0 g c n B σ x lo hi y' w1) := hide (HP.out.to hs1)
        have ht2 : (t == 2) = false := by cases t with | zero => rfl | succ t => cases t with | zero => rfl | succ t => omega
        have ht3 : ((t : Int) == 2) = false := by cases t with | zero => rfl | succ t => cases t with | zero => rfl | succ t => omega
        clear hs1
        go_upto_region 15 with fail
        go_cut [75] (fun v w' => ∃ bb : Bool, v = .bool bb ∧ Hid (Pd w0 g c n B σ x lo hi y' w'))
        case first =>
          by_cases t1 : t = 1
          · subst t1
            cases b1 <;> cases b2 <;> (go_wp2_with fail; go_meet; exact ⟨_, rfl, HP⟩)
          · have t2 : (t == 1) = false := by simp [t1]
            have t3 : ((t : Int) == 1) = false := by simp; omega
            cases b1 <;> cases b2 <;> (go_wp2_with fail; go_meet; exact ⟨_, rfl, HP⟩)
        case rest =>
          clear HP
          obtain ⟨bb, rfl, HP⟩ := hcut
          go_upto_if 75 with fail
          go_cut [] (fun w' => Hid (Pd w0 g c n B σ x lo hi y' w'))
          case first =>
            cases bb
            · go_wp2_with fail
              go_meet
              exact HP
            · go_wp2_with fail
              refine (TQ.out lo hi hlohi p2 y' _ HP.out.srt).mono ?_
              rintro e w2 ⟨b, rfl, hb, hs2⟩
              have HP2 := hide (HP.out.to hs2)
              clear hs2
              cases b
              · go_wp2_with fail
                go_meet
                exact HP2
              · have HB := hide (hb rfl)
                clear hb
                go_wp2_with fail
                (try simp only [Exit.inBlock, Exit.then])
                refine bodyPost_ret (results_none rfl _ _ _) rfl ?_
                exact ⟨rfl, y', HP2.out.sw, HP2.out.last HB.out, HP2.out.srt⟩
          case rest =>
            clear HP
            have HP := hcut
            clear hcut
            go_upto_region 17 with fail
            go_cut [97] (fun v w' => v = .bool false ∧ Hid (Pd w0 g c n B σ x lo hi y' w'))
            case first =>
              by_cases hl0 : lo = 0
              · have d1 : decide (0 < lo) = false := by simp; omega
                have d2 : decide ((0 : Int) < (lo : Int)) = false := by simp; omega
                have HL0 := hide hl0
                clear hl0
                go_quiet (fail)
                go_wp2_with fail
                go_meet
                exact ⟨rfl, hide (HP.out.to (HP.out.srt.drewN _))⟩
              · have d1 : decide (0 < lo) = true := by simp; omega
                have d2 : decide ((0 : Int) < (lo : Int)) = true := by simp; omega
                obtain ⟨m, hm1, hm2⟩ : ∃ m, lo ≤ m + 1 ∧ m + 1 ≤ lo := ⟨lo - 1, by omega, by omega⟩
                have hm16 : lo ≤ 100 := by omega
                have c1 := HP.out.srt.cell (k := m) (by omega)
                have c2 := HP.out.srt.cell (k := q) (by omega)
                have i1 : (m : Int) < (n : Int) := by omega
                have i2 : (q : Int) < (n : Int) := by omega
                have i3 : m < n := by omega
                have i4 : q < n := by omega
                have HC := hide (fun W (h : Srt w0 g c n B σ y' W) => h.cmp (i := m) (j := q) (by omega) (by omega))
                have HCE := hide (fun W (h : Srt w0 g c n B σ y' W) => And.intro (h.cell (k := m) (by omega)) (h.cell (k := q) (by omega)))
                have hrn : ordI σ (y' m) (y' q) < 0 := (HL.out _ _).2 (HP.out.low m q (by omega) (by omega) (by omega))
                generalize hr : ordI σ (y' m) (y' q) = r at *
                have hrd : decide (r < 0) = true := decide_eq_true hrn
                obtain ⟨X1, hX1⟩ : ∃ X : Int, X = ((y' m : Nat) : Int) := ⟨_, rfl⟩
                obtain ⟨X0, hX0⟩ : ∃ X : Int, X = ((y' q : Nat) : Int) := ⟨_, rfl⟩
                rw [← hX1] at c1 HC HCE
                rw [← hX0] at c2 HC HCE
                clear hX1 hX0 hr
                obtain ⟨a3, a4⟩ := pred_facts hm1 hm2 hm16
                go_region_held3 (fun w' => w'.cell? ⟨g, m, none⟩ = some (.int .i64 X1) ∧ w'.cell? ⟨g, q, none⟩ = some (.int .i64 X0)) (first | (constructor <;> assumption) | assumption | go_keep) (first | (go_at_call 24; refine (HC.out _ (by exact HP.out.srt.drew)).mono ?_; rintro e w3 ⟨rfl, hs3⟩; have hc3 := HCE.out _ hs3))
                have H3 := hide (HP.out.to hs3)
                clear hs3 hc3 c1 c2 HC HCE HP
                go_wp2_with fail
                go_meet
                exact ⟨rfl, H3⟩
            case rest =>
              clear HP
              obtain ⟨rfl, HP⟩ := hcut
              go_wp2_with fail
              refine (TS.out lo hi q hlohi2 p2 hq1 hq2 y' _ HP.out.srt).mono ?_
              rintro e w3 ⟨mid, bb2, z, rfl, hz1, hz2, hz3⟩
              have HZ := hide (HP.out.swap hz1 hz3)
              have HCT := hide hz2
              have m1 := hz2.a
              have m2 := hz2.b
              clear hz1 hz2 hz3 HP TS TQ TP TB TI
              obtain ⟨A, hA1, hA2⟩ : ∃ A, lo + A ≤ mid ∧ mid ≤ lo + A := ⟨mid - lo, by omega, by omega⟩
              obtain ⟨R, hR1, hR2⟩ : ∃ R, mid + R ≤ hi ∧ hi ≤ mid + R := ⟨hi - mid, by omega, by omega⟩
              have hmid16 : mid ≤ 16 := by omega
              obtain ⟨T, hT1, hT2⟩ := div_facts L
              by_cases hAR : A < R
              · have d1 : decide (A < R) = true := decide_eq_true hAR
                have d2 : decide ((A : Int) < (R : Int)) = true := by simp; omega
                have hf : mid - lo ≤ 12 := by omega
                have hmn : mid ≤ n := by omega
                have HF := hide (fun W (h : Srt w0 g c n B σ z W) => TF.out lo mid m1 hmn hf (lim' : Int) z W h)
                have HSM := hide (small_left hL1 hL2 hA m1 m2 hhi16)
                have hmid100 : mid ≤ 100 := by omega
                obtain ⟨a3, a4⟩ := sub_facts hA1 hA2 hmid16
                obtain ⟨a5, a6⟩ := sub_facts hR1 hR2 hhi16
                obtain ⟨a7, a8⟩ := wrapUp hmid100
                clear hAR hf hmn TF hA1 hA2 hR1 hR2 hmid16 hmid100
                go_wp2_with (go_at_call 28; refine (HF.out _ HZ.out.srt).mono ?_; rintro e w4 ⟨rfl, z2, hy1, hy2, hy3⟩)
                have HN : Hid (Pd w0 g c n B σ x (mid + 1) hi z2 w4) := hide ((HZ.out.swap (hy1.mono (Nat.le_refl _) (Nat.le_of_lt m2)) hy3).left (HCT.out.keep hy1 (Or.inl ⟨Nat.le_refl _, Nat.le_refl _⟩)) hy2)
                clear hy1 hy2 hy3
                go_roundw
                case rel => exact ⟨mid + 1, hi, lim', z2, _, bb2, by simp, rfl, rfl, rfl, rfl, HSM.out.1, hA', fun _ => HSM.out.2.1, HN.out⟩
                case measure => exact m_left HSM.out.2.2
              · have d1 : decide (A < R) = false := decide_eq_false hAR
                have d2 : decide ((A : Int) < (R : Int)) = false := by simp; omega
                have hf : hi - (mid + 1) ≤ 12 := by omega
                have HF := hide (fun W (h : Srt w0 g c n B σ z W) => TF.out (mid + 1) hi m2 p2 hf (lim' : Int) z W h)
                rw [show ((mid + 1 : Nat) : Int) = (mid : Int) + 1 from rfl] at HF
                have HSM := hide (small_right hL1 hL2 hA m1 m2 hhi16)
                have hmid100 : mid ≤ 100 := by omega
                obtain ⟨a3, a4⟩ := sub_facts hA1 hA2 hmid16
                obtain ⟨a5, a6⟩ := sub_facts hR1 hR2 hhi16
                obtain ⟨a7, a8⟩ := wrapUp hmid100
                clear hAR hf TF hA1 hA2 hR1 hR2 hmid16 hmid100
                go_wp2_with (go_at_call 28; refine (HF.out _ HZ.out.srt).mono ?_; rintro e w4 ⟨rfl, z2, hy1, hy2, hy3⟩)
                have HN : Hid (Pd w0 g c n B σ x lo mid z2 w4) := hide ((HZ.out.swap (hy1.mono (Nat.le_trans m1 (Nat.le_succ _)) (Nat.le_refl _)) hy3).right (HCT.out.keep hy1 (Or.inr ⟨Nat.lt_succ_self _, Nat.le_refl _⟩)) hy2)
                clear hy1 hy2 hy3
                go_roundw
                case rel => exact ⟨lo, mid, lim', z2, _, bb2, rfl, rfl, rfl, rfl, rfl, HSM.out.1, hA', fun _ => HSM.out.2.1, HN.out⟩
                case measure => exact m_right HSM.out.2.2

theorem bitLen_few {n : Nat} (h : n ≤ 16) : n ≤ Lib.bitLen n + 11 ∧ Lib.bitLen n ≤ 100 := by
  have : n = 0 ∨ n = 1 ∨ n = 2 ∨ n = 3 ∨ n = 4 ∨ n = 5 ∨ n = 6 ∨ n = 7 ∨ n = 8 ∨ n = 9 ∨ n = 10 ∨ n = 11 ∨ n = 12 ∨ n = 13 ∨ n = 14 ∨ n = 15 ∨ n = 16 := by omega
  rcases this with rfl | rfl | rfl | rfl | rfl | rfl | rfl | rfl | rfl | rfl | rfl | rfl | rfl | rfl | rfl | rfl | rfl <;> decide

set_option maxHeartbeats 1000000 in
theorem sort_any (KK : Nat) (hKK : KK ≤ 1000000) (w0 : World) (g c n B : Nat) (σ : Ws) (hO : Ok KK σ) (hn : n ≤ 16) (hg : g < w0.heap.size) (hB : B < w0.heap.size) (x : Nat → Nat)
    (hone : ∀ p q, p < n → q < n → key σ (x p) = key σ (x q) → p = q) (w : World) (hS : Srt w0 g c n B σ x w) :
    Calls Try.prog 23 #[.slice (some ⟨g, 0, none⟩) n c, .func (.func 24) #[.pointer (some ⟨B, 0, none⟩)] #[]] w fun e w' => Done w0 g c n B σ x e w' := by
  have T1 := hide (fun W => len_any n (by omega) W)
  have T2 := hide (fun W h => pdq_any KK hKK w0 g c n B σ hO hn hg hB (Lib.bitLen n) (bitLen_few hn).1 (bitLen_few hn).2 x hone W h)
  have wr : IntKind.u64.wrap (n : Int) = n := by simp [IntKind.wrap, IntKind.bits, IntKind.signed]; omega
  have H := hide hS
  generalize Lib.bitLen n = l at *
  clear hS hone
  go_enter Try.func23, Try.ntmps23
  go_wp2_with (first | (go_at_call 29; refine (T1.out _).mono ?_; rintro e w' ⟨rfl, hw⟩; subst hw) | (go_at_call 28; refine (T2.out _ H.out).mono ?_; rintro e w' ⟨rfl, h⟩))
  go_end0
  exact ⟨rfl, h⟩

end Go.Proofs.Ytnciefdhgokffaa
