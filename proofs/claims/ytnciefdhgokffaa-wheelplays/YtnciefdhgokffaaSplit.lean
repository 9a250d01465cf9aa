/-
  What slices' partition of a row by a pivot comes to.
-/
import Derived.Test.YtnciefdhgokffaaRow
import Derived.BigRegion
import Derived.Deep.DeepCutAuto
import Derived.Deep.CutBlock
namespace Go.Proofs.Ytnciefdhgokffaa
open Go.RowKit

/-- The pivot lies at lo; what lies ahead of i is less, what lies behind j is not. -/
structure PS (w0 : World) (g c n B : Nat) (σ : Ws) (lo hi : Nat) (x : Nat → Nat) (i j : Nat) (y : Nat → Nat) (W : World) : Prop where
  a : lo < i
  b : i ≤ j + 1
  d : lo ≤ j
  e : j < hi
  sw : Sw lo hi x y
  l : ∀ k, lo < k → k < i → key σ (y k) < key σ (y lo)
  r : ∀ k, j < k → k < hi → key σ (y lo) ≤ key σ (y k)
  srt : Srt w0 g c n B σ y W
theorem PS.to {w0 : World} {g c n B : Nat} {σ : Ws} {lo hi : Nat} {x : Nat → Nat} {i j : Nat} {y : Nat → Nat} {W W' : World} (h : PS w0 g c n B σ lo hi x i j y W) (k : Srt w0 g c n B σ y W') : PS w0 g c n B σ lo hi x i j y W' := ⟨h.a, h.b, h.d, h.e, h.sw, h.l, h.r, k⟩
theorem PS.more {w0 : World} {g c n B : Nat} {σ : Ws} {lo hi : Nat} {x : Nat → Nat} {i j : Nat} {y : Nat → Nat} {W W' : World} (h : PS w0 g c n B σ lo hi x i j y W) (hij : i ≤ j) (hk : key σ (y i) < key σ (y lo)) (k : Srt w0 g c n B σ y W') : PS w0 g c n B σ lo hi x (i + 1) j y W' :=
  ⟨by have := h.a; omega, by omega, h.d, h.e, h.sw, fun m h1 h2 => by
    by_cases e : m = i
    · subst e; exact hk
    · exact h.l m h1 (by omega), h.r, k⟩
theorem PS.less {w0 : World} {g c n B : Nat} {σ : Ws} {lo hi : Nat} {x : Nat → Nat} {i j : Nat} {y : Nat → Nat} {W W' : World} (h : PS w0 g c n B σ lo hi x i (j + 1) y W) (hij : i ≤ j + 1) (hk : key σ (y lo) ≤ key σ (y (j + 1))) (k : Srt w0 g c n B σ y W') : PS w0 g c n B σ lo hi x i j y W' :=
  ⟨h.a, by omega, by have := h.a; omega, by have := h.e; omega, h.sw, h.l, fun m h1 h2 => by
    by_cases e : m = j + 1
    · subst e; exact hk
    · exact h.r m (by omega) h2, k⟩
def E1 (σ : Ws) (lo i j : Nat) (y : Nat → Nat) : Prop := j < i ∨ key σ (y lo) ≤ key σ (y i)
def E2 (σ : Ws) (lo i j : Nat) (y : Nat → Nat) : Prop := j < i ∨ key σ (y j) < key σ (y lo)
theorem PS.turn {w0 : World} {g c n B : Nat} {σ : Ws} {lo hi : Nat} {x : Nat → Nat} {i j : Nat} {y : Nat → Nat} {W W' : World} (h : PS w0 g c n B σ lo hi x i (j + 1) y W) (hij : i ≤ j + 1) (h1 : E1 σ lo i (j + 1) y) (h2 : E2 σ lo i (j + 1) y) (k : Srt w0 g c n B σ (swp y i (j + 1)) W') : PS w0 g c n B σ lo hi x (i + 1) j (swp y i (j + 1)) W' := by
  have a := h.a
  have e := h.e
  have h1' : key σ (y lo) ≤ key σ (y i) := by rcases h1 with h1 | h1; omega; exact h1
  have h2' : key σ (y (j + 1)) < key σ (y lo) := by rcases h2 with h2 | h2; omega; exact h2
  have hne : i ≠ j + 1 := fun e => by subst e; omega
  have hlo : swp y i (j + 1) lo = y lo := swp_o _ (by omega) (by omega)
  refine ⟨by omega, by omega, by omega, by omega, h.sw.step _ _ (by omega) (by omega) (by omega) (by omega), fun m m1 m2 => ?_, fun m m1 m2 => ?_, k⟩
  · rw [hlo]
    by_cases e : m = i
    · subst e; rw [swp_l]; exact h2'
    · rw [swp_o _ e (by omega)]; exact h.l m m1 (by omega)
  · rw [hlo]
    by_cases e : m = j + 1
    · subst e; rw [swp_r]; exact h1'
    · rw [swp_o _ (by omega) e]; exact h.r m (by omega) m2
/-- The pivot has come to mid. -/
structure Cut (σ : Ws) (lo hi mid : Nat) (y : Nat → Nat) : Prop where
  a : lo ≤ mid
  b : mid < hi
  l : ∀ k, lo ≤ k → k < mid → key σ (y k) < key σ (y mid)
  r : ∀ k, mid < k → k < hi → key σ (y mid) ≤ key σ (y k)
theorem PS.last {w0 : World} {g c n B : Nat} {σ : Ws} {lo hi : Nat} {x : Nat → Nat} {i j : Nat} {y : Nat → Nat} {W : World} (h : PS w0 g c n B σ lo hi x i j y W) (hij : j < i) : Sw lo hi x (swp y j lo) ∧ Cut σ lo hi j (swp y j lo) := by
  have a := h.a
  have b := h.b
  have d := h.d
  have e := h.e
  refine ⟨h.sw.step _ _ d e (Nat.le_refl _) (by omega), d, e, fun k k1 k2 => ?_, fun k k1 k2 => ?_⟩
  · rw [swp_l]
    by_cases z : k = lo
    · subst z; rw [swp_r]; exact h.l j k2 (by omega)
    · rw [swp_o _ (by omega) z]; exact h.l k (by omega) (by omega)
  · rw [swp_l, swp_o _ (by omega) (by omega)]; exact h.r k k1 k2

theorem wraps {j m : Nat} (h : j = m + 1) (hm : m ≤ 100) : IntKind.i64.wrap ((j : Int) - 1) = (m : Int) ∧ wrap64 ((j : Int) - 1) = (m : Int) := by
  refine ⟨?_, ?_⟩
  · rw [wrapB (by omega)]; omega
  · rw [IntWalk.wrap64_in _ (by omega)]; omega
theorem PS.less' {w0 : World} {g c n B : Nat} {σ : Ws} {lo hi : Nat} {x : Nat → Nat} {i j m : Nat} (e : j = m + 1) {y : Nat → Nat} {W W' : World} (h : PS w0 g c n B σ lo hi x i j y W) (hij : i ≤ j) (hk : key σ (y lo) ≤ key σ (y j)) (k : Srt w0 g c n B σ y W') : PS w0 g c n B σ lo hi x i m y W' := by
  subst e; exact h.less hij hk k
theorem PS.turn' {w0 : World} {g c n B : Nat} {σ : Ws} {lo hi : Nat} {x : Nat → Nat} {i j m : Nat} (e : j = m + 1) {y : Nat → Nat} {W W' : World} (h : PS w0 g c n B σ lo hi x i j y W) (hij : i ≤ j) (h1 : E1 σ lo i j y) (h2 : E2 σ lo i j y) (k : Srt w0 g c n B σ (swp y i j) W') : PS w0 g c n B σ lo hi x (i + 1) m (swp y i j) W' := by
  subst e; exact h.turn hij h1 h2 k
theorem wrapUp {i : Nat} (h : i ≤ 100) : IntKind.i64.wrap ((i : Int) + 1) = (i : Int) + 1 ∧ wrap64 ((i : Int) + 1) = (i : Int) + 1 := ⟨wrapB (by omega), IntWalk.wrap64_in _ (by omega)⟩
theorem pred_val {j m : Nat} (h : j = m + 1) : Value.int .i64 ((j : Int) - 1) = .int .i64 (m : Int) := by congr 1; omega
theorem le_pred {j m k : Nat} (e : j = m + 1) (h : j ≤ k) : m ≤ k := by omega
theorem meas_lt {i i0 j0 m : Nat} (h1 : i0 ≤ i) (h2 : m + 1 ≤ j0) (h3 : i ≤ m + 1) : m + 1 - (i + 1) < j0 + 1 - i0 := by omega
theorem dec1 {j m : Nat} (h : j = m + 1) : (intOf (.int .i64 (m : Int))).toNat < (intOf (.int .i64 (j : Int))).toNat := by
  simp only [intOf]; omega
theorem meas2 {i i0 j0 m : Nat} (h : m + 1 - (i + 1) < j0 + 1 - i0) : (intOf (.int .i64 (m : Int))).toNat + 1 - (intOf (.int .i64 ((i : Int) + 1))).toNat < (intOf (.int .i64 (j0 : Int))).toNat + 1 - (intOf (.int .i64 (i0 : Int))).toNat := by
  simp only [intOf]; omega
def Parted (w0 : World) (g c n B : Nat) (σ : Ws) (lo hi : Nat) (x : Nat → Nat) (e : Ending) (w' : World) : Prop :=
  ∃ (mid : Nat) (b : Bool) (y : Nat → Nat), e = .returned (.tuple #[.int .i64 (mid : Int), .bool b]) ∧ Sw lo hi x y ∧ Cut σ lo hi mid y ∧ Srt w0 g c n B σ y w'

theorem cell_swap {W : World} {g i j : Nat} {u v : Value} (hi : W.cell? ⟨g, i, none⟩ = some u) (hj : W.cell? ⟨g, j, none⟩ = some v) : (W.setCell ⟨g, i, none⟩ v).cell? ⟨g, j, none⟩ = some v := by
  by_cases e : i = j
  · subst e; exact World.cell?_setCell_same _ _ _ hi
  · exact (World.cell?_setCell_other _ _ _ _ (by intro e'; simp only [Addr.mk.injEq] at e'; omega)).trans hj

set_option maxHeartbeats 16000000 in
set_option maxRecDepth 100000 in
theorem partition_any (KK : Nat) (hKK : KK ≤ 1000000) (w0 : World) (g c n B : Nat) (σ : Ws) (hO : Ok KK σ) (hn : n ≤ 16) (lo hi pv : Nat) (hlo : lo + 1 < hi) (hhi : hi ≤ n) (hpv : lo ≤ pv) (hpv2 : pv < hi) (x : Nat → Nat) (w : World) (hS : Srt w0 g c n B σ x w) :
    Calls Try.prog 40 #[.slice (some ⟨g, 0, none⟩) n c, .int .i64 (lo : Int), .int .i64 (hi : Int), .int .i64 (pv : Int), .func (.func 24) #[.pointer (some ⟨B, 0, none⟩)] #[]] w fun e w' => Parted w0 g c n B σ lo hi x e w' := by
  have HL := hide (fun a b => ordI_lt hKK hO a b)
  obtain ⟨E, hE1, hE2⟩ : ∃ E, hi ≤ E + 1 ∧ E + 1 ≤ hi := ⟨hi - 1, by omega, by omega⟩
  have c1 := hS.cell (k := lo) (by omega)
  have c2 := hS.cell (k := pv) (by omega)
  have f1 := hS.row.frozen lo
  have f2 := hS.row.frozen pv
  have s1 := cell_swap c1 c2
  have s2 : (w.setCell ⟨g, lo, none⟩ (.int .i64 ((x pv : Nat) : Int))).frozen? ⟨g, pv, none⟩ = false := by rw [World.frozen?_setCell]; exact f2
  have HS := hide (hS.swap (i := lo) (j := pv) (by omega) (by omega))
  have HX : Hid (Sw lo hi x (swp x lo pv)) := hide (Sw.refl.step _ _ (by omega) (by omega) (by omega) (by omega))
  generalize swp x lo pv = y at *
  generalize ((x lo : Nat) : Int) = X1 at *
  generalize ((x pv : Nat) : Int) = X2 at *
  have b1 : (lo : Int) < (n : Int) := by omega
  have b2 : (pv : Int) < (n : Int) := by omega
  have b3 : lo < n := by omega
  have b4 : pv < n := by omega
  have b5 : IntKind.i64.wrap ((hi : Int) - 1) = (E : Int) := by rw [wrapB (by omega)]; omega
  have b6 : wrap64 ((hi : Int) - 1) = (E : Int) := by rw [IntWalk.wrap64_in _ (by omega)]; omega
  have b7 : IntKind.i64.wrap (E : Int) = (E : Int) := wrapB (by omega)
  have b8 : wrap64 (E : Int) = (E : Int) := IntWalk.wrap64_in _ (by omega)
  clear hS
  go_enter Try.func40, Try.ntmps40
  go_wp2_with fail
  go_region
  clear c1 c2 f1 f2 s1 s2
  go_upto_block 0 with fail
  clear b5 b6 b7 b8
  go_cut [12] (fun v w' => ∃ i : Nat, v = .int .i64 (i : Int) ∧ Hid (PS w0 g c n B σ lo hi x i E y w') ∧ Hid (E1 σ lo i E y))
  case first =>
    go_wp2_with fail
    go_loopw [12] (fun v wr => ∃ i : Nat, v = .int .i64 (i : Int) ∧ Hid (PS w0 g c n B σ lo hi x i E y wr)) (fun v _ => E + 1 - (intOf v).toNat)
    case atStart => exact ⟨lo + 1, by go_num, hide ⟨by omega, by omega, by omega, by omega, HX.out, fun k h1 h2 => by omega, fun k h1 h2 => by omega, HS.out.drew⟩⟩
    case round =>
      obtain ⟨i, rfl, hps⟩ := hrel
      have p1 := hps.out.a
      have p2 := hps.out.b
      have p4 := hps.out.e
      by_cases hij : i ≤ E
      · have hd : decide (i ≤ E) = true := by simp; omega
        have c1 := hps.out.srt.cell (k := i) (by omega)
        have c2 := hps.out.srt.cell (k := lo) (by omega)
        have i1 : (i : Int) < (n : Int) := by omega
        have i2 : i < n := by omega
        have HC := hide (fun W (h : Srt w0 g c n B σ y W) => h.cmp (i := i) (j := lo) (by omega) (by omega))
        have HCE := hide (fun W (h : Srt w0 g c n B σ y W) => And.intro (h.cell (k := i) (by omega)) (h.cell (k := lo) (by omega)))
        have HLT := hide (HL.out (y i) (y lo))
        generalize hr : ordI σ (y i) (y lo) = r at *
        obtain ⟨X1, hX1⟩ : ∃ X : Int, X = ((y i : Nat) : Int) := ⟨_, rfl⟩
        obtain ⟨X0, hX0⟩ : ∃ X : Int, X = ((y lo : Nat) : Int) := ⟨_, rfl⟩
        rw [← hX1] at c1 HC HCE
        rw [← hX0] at c2 HC HCE
        clear hX1 hX0 hr
        by_cases hrn : r < 0
        · have hrd : decide (r < 0) = true := by simp; omega
          go_wp2_with fail
          go_region_held3 (fun w' => w'.cell? ⟨g, i, none⟩ = some (.int .i64 X1) ∧ w'.cell? ⟨g, lo, none⟩ = some (.int .i64 X0)) (first | (constructor <;> assumption) | assumption | go_keep) (first | (go_at_call 24; refine (HC.out _ (by exact hps.out.srt.drew)).mono ?_; rintro e w3 ⟨rfl, hs3⟩; have hc3 := HCE.out _ hs3))
          have H3 := hide (hps.out.more hij (HLT.out.1 hrn) hs3)
          clear hs3 hc3 c1 c2 HC HCE hps
          go_wp2
          go_roundw
          case rel => exact ⟨i + 1, by go_num, H3⟩
          case measure => simp [intOf]; omega
        · have hrd : decide (r < 0) = false := by simp; omega
          go_wp2_with fail
          go_region_held3 (fun w' => w'.cell? ⟨g, i, none⟩ = some (.int .i64 X1) ∧ w'.cell? ⟨g, lo, none⟩ = some (.int .i64 X0)) (first | (constructor <;> assumption) | assumption | go_keep) (first | (go_at_call 24; refine (HC.out _ (by exact hps.out.srt.drew)).mono ?_; rintro e w3 ⟨rfl, hs3⟩; have hc3 := HCE.out _ hs3))
          have H3 := hide (hps.out.to hs3)
          have HE : Hid (E1 σ lo i E y) := hide (Or.inr (by have := HLT.out; omega))
          clear hs3 hc3 c1 c2 HC HCE hps
          go_wp2
          go_meet
          exact ⟨i, rfl, H3, HE⟩
      · have hd : decide (i ≤ E) = false := by simp; omega
        go_wp2_with fail
        go_quiet (fail)
        go_wp2
        go_meet
        exact ⟨i, rfl, hide (hps.out.to (hps.out.srt.drewN _)), hide (Or.inl (by omega))⟩
  case rest =>
    obtain ⟨i, rfl, hps, hq1⟩ := hcut
    clear HS HX
    go_upto_block 2 with fail
    go_cut [13] (fun v w' => ∃ j : Nat, v = .int .i64 (j : Int) ∧ Hid (PS w0 g c n B σ lo hi x i j y w') ∧ Hid (E1 σ lo i j y) ∧ Hid (E2 σ lo i j y))
    case first =>
      go_wp2_with fail
      go_loopw [13] (fun v wr => ∃ j : Nat, v = .int .i64 (j : Int) ∧ Hid (PS w0 g c n B σ lo hi x i j y wr) ∧ Hid (E1 σ lo i j y)) (fun v _ => (intOf v).toNat)
      case atStart => exact ⟨E, rfl, hps, hq1⟩
      case round =>
        clear hps hq1
        obtain ⟨j, rfl, hps, hq1⟩ := hrel
        have p1 := hps.out.a
        have p2 := hps.out.b
        have p3 := hps.out.d
        have p4 := hps.out.e
        by_cases hij : i ≤ j
        · obtain ⟨m, hm⟩ : ∃ m, j = m + 1 := ⟨j - 1, by omega⟩
          have HM := hide hm
          have hm100 : m ≤ 100 := by omega
          clear hm
          have hd : decide (i ≤ j) = true := by simp; omega
          have hd2 : decide ((i : Int) ≤ (j : Int)) = true := by simp; omega
          have c1 := hps.out.srt.cell (k := j) (by omega)
          have c2 := hps.out.srt.cell (k := lo) (by omega)
          have i1 : (j : Int) < (n : Int) := by omega
          have i2 : j < n := by omega
          have i3 : (0 : Int) ≤ (j : Int) := by omega
          have HC := hide (fun W (h : Srt w0 g c n B σ y W) => h.cmp (i := j) (j := lo) (by omega) (by omega))
          have HCE := hide (fun W (h : Srt w0 g c n B σ y W) => And.intro (h.cell (k := j) (by omega)) (h.cell (k := lo) (by omega)))
          have HLT := hide (HL.out (y j) (y lo))
          generalize hr : ordI σ (y j) (y lo) = r at *
          obtain ⟨X1, hX1⟩ : ∃ X : Int, X = ((y j : Nat) : Int) := ⟨_, rfl⟩
          obtain ⟨X0, hX0⟩ : ∃ X : Int, X = ((y lo : Nat) : Int) := ⟨_, rfl⟩
          rw [← hX1] at c1 HC HCE
          rw [← hX0] at c2 HC HCE
          clear hX1 hX0 hr
          have HQ1 : Hid (¬ r < 0 → key σ (y lo) ≤ key σ (y j)) := fun h => by have := HLT.out; omega
          have HQ2 : Hid (E1 σ lo i j y → E1 σ lo i m y) := fun h => h.imp (fun h => by have := HM.out; omega) id
          obtain ⟨i4, i5⟩ := wraps HM.out hm100
          by_cases hrn : r < 0
          · have hrd : decide (r < 0) = true := decide_eq_true hrn
            go_wp2_with fail
            go_region_held3 (fun w' => w'.cell? ⟨g, j, none⟩ = some (.int .i64 X1) ∧ w'.cell? ⟨g, lo, none⟩ = some (.int .i64 X0)) (first | (constructor <;> assumption) | assumption | go_keep) (first | (go_at_call 24; refine (HC.out _ (by exact hps.out.srt.drew)).mono ?_; rintro e w3 ⟨rfl, hs3⟩; have hc3 := HCE.out _ hs3))
            have H3 := hide (hps.out.to hs3)
            have HE : Hid (E2 σ lo i j y) := hide (Or.inr (HLT.out.1 hrn))
            clear hs3 hc3 c1 c2 HC HCE hps
            go_wp2
            go_meet
            exact ⟨j, rfl, H3, hq1, HE⟩
          · have hrd : decide (r < 0) = false := decide_eq_false hrn
            go_wp2_with fail
            go_region_held3 (fun w' => w'.cell? ⟨g, j, none⟩ = some (.int .i64 X1) ∧ w'.cell? ⟨g, lo, none⟩ = some (.int .i64 X0)) (first | (constructor <;> assumption) | assumption | go_keep) (first | (go_at_call 24; refine (HC.out _ (by exact hps.out.srt.drew)).mono ?_; rintro e w3 ⟨rfl, hs3⟩; have hc3 := HCE.out _ hs3))
            have H3 := hide (hps.out.less' HM.out hij (HQ1.out hrn) hs3)
            have HE : Hid (E1 σ lo i m y) := hide (HQ2.out hq1.out)
            clear hs3 hc3 c1 c2 HC HCE hps hq1
            go_wp2
            go_roundw
            case rel => exact ⟨m, by go_num, H3, HE⟩
            case measure => exact dec1 HM.out
        · have hd : decide (i ≤ j) = false := by simp; omega
          go_wp2_with fail
          go_quiet (fail)
          go_wp2
          go_meet
          exact ⟨j, rfl, hide (hps.out.to (hps.out.srt.drewN _)), hq1, hide (Or.inl (by omega))⟩
    case rest =>
      clear hps hq1
      obtain ⟨j, rfl, hps, hq1, hq2⟩ := hcut
      have p1 := hps.out.a
      have p2 := hps.out.b
      have p3 := hps.out.d
      have p4 := hps.out.e
      by_cases hij : j < i
      · have hd : decide (j < i) = true := by simp; omega
        have c1 := hps.out.srt.cell (k := j) (by omega)
        have c2 := hps.out.srt.cell (k := lo) (by omega)
        have f1 := hps.out.srt.row.frozen j
        have f2 := hps.out.srt.row.frozen lo
        have s1 := cell_swap c1 c2
        have s2 : (wc.setCell ⟨g, j, none⟩ (.int .i64 ((y lo : Nat) : Int))).frozen? ⟨g, lo, none⟩ = false := by rw [World.frozen?_setCell]; exact f2
        have i1 : (j : Int) < (n : Int) := by omega
        have i2 : j < n := by omega
        have HSW := hide (hps.out.srt.swap (i := j) (j := lo) (by omega) (by omega))
        have HLA := hide (hps.out.last hij)
        generalize swp y j lo = z at *
        generalize ((y j : Nat) : Int) = X1 at *
        generalize ((y lo : Nat) : Int) = X2 at *
        clear hps hq1 hE2
        go_wp2_with fail
        go_region
        go_wp2
        go_ret2
        exact ⟨j, true, z, rfl, HLA.out.1, HLA.out.2, HSW.out.drew⟩
      · obtain ⟨m, hm⟩ : ∃ m, j = m + 1 := ⟨j - 1, by omega⟩
        have HM := hide hm
        have hm100 : m ≤ 100 := by omega
        clear hm
        have hd : decide (j < i) = false := by simp; omega
        have hd2 : decide ((j : Int) < (i : Int)) = false := by simp; omega
        have c1 := hps.out.srt.cell (k := i) (by omega)
        have c2 := hps.out.srt.cell (k := j) (by omega)
        have f1 := hps.out.srt.row.frozen i
        have f2 := hps.out.srt.row.frozen j
        have s1 := cell_swap c1 c2
        have s2 : (wc.setCell ⟨g, i, none⟩ (.int .i64 ((y j : Nat) : Int))).frozen? ⟨g, j, none⟩ = false := by rw [World.frozen?_setCell]; exact f2
        have i1 : (j : Int) < (n : Int) := by omega
        have i2 : j < n := by omega
        have i3 : (0 : Int) ≤ (j : Int) := by omega
        have i8 : (i : Int) < (n : Int) := by omega
        have i9 : i < n := by omega
        have HSW := hide (hps.out.srt.swap (i := i) (j := j) (by omega) (by omega))
        have HP2 : Hid (∀ W', Srt w0 g c n B σ (swp y i j) W' → PS w0 g c n B σ lo hi x (i + 1) m (swp y i j) W') := hide (fun W' k => hps.out.turn' HM.out (by omega) hq1.out hq2.out k)
        generalize swp y i j = z at *
        generalize ((y i : Nat) : Int) = X1 at *
        generalize ((y j : Nat) : Int) = X2 at *
        clear hps hq1 hE2
        go_wp2_with fail
        go_region
        have H0 : Hid (PS w0 g c n B σ lo hi x (i + 1) m z _) := hide (HP2.out _ HSW.out.drew)
        clear c1 c2 f1 f2 s1 s2 HSW HP2
        go_wp2
        clear hd hd2 i1 i2 i3 i8 i9
        go_loopw [12, 13] (fun v u wr => ∃ (i j : Nat) (y : Nat → Nat), v = .int .i64 (i : Int) ∧ u = .int .i64 (j : Int) ∧ Hid (PS w0 g c n B σ lo hi x i j y wr)) (fun v u _ => (intOf u).toNat + 1 - (intOf v).toNat)
        case atStart => exact ⟨i + 1, m, z, by go_num, by first | rfl | exact pred_val HM.out, H0⟩
        case round =>
          clear H0 p1 p2 p3 p4 hij
          obtain ⟨i0, j0, y, rfl, rfl, hps⟩ := hrel
          have q0 := hps.out.b
          go_upto_block 6 with fail
          go_cut [12] (fun v w' => ∃ i : Nat, v = .int .i64 (i : Int) ∧ Hid (PS w0 g c n B σ lo hi x i j0 y w') ∧ Hid (E1 σ lo i j0 y) ∧ Hid (i0 ≤ i))
          case first =>
            go_wp2_with fail
            go_loopw [12] (fun v wr => ∃ i : Nat, v = .int .i64 (i : Int) ∧ Hid (PS w0 g c n B σ lo hi x i j0 y wr) ∧ Hid (i0 ≤ i)) (fun v _ => j0 + 1 - (intOf v).toNat)
            case atStart => exact ⟨i0, rfl, hps, hide (Nat.le_refl _)⟩
            case round =>
              clear hps
              obtain ⟨i, rfl, hps, hb⟩ := hrel
              have p1 := hps.out.a
              have p2 := hps.out.b
              have p4 := hps.out.e
              by_cases hij : i ≤ j0
              · have hd : decide (i ≤ j0) = true := by simp; omega
                have c1 := hps.out.srt.cell (k := i) (by omega)
                have c2 := hps.out.srt.cell (k := lo) (by omega)
                have i1 : (i : Int) < (n : Int) := by omega
                have i2 : i < n := by omega
                have HC := hide (fun W (h : Srt w0 g c n B σ y W) => h.cmp (i := i) (j := lo) (by omega) (by omega))
                have HCE := hide (fun W (h : Srt w0 g c n B σ y W) => And.intro (h.cell (k := i) (by omega)) (h.cell (k := lo) (by omega)))
                have HLT := hide (HL.out (y i) (y lo))
                generalize hr : ordI σ (y i) (y lo) = r at *
                obtain ⟨X1, hX1⟩ : ∃ X : Int, X = ((y i : Nat) : Int) := ⟨_, rfl⟩
                obtain ⟨X0, hX0⟩ : ∃ X : Int, X = ((y lo : Nat) : Int) := ⟨_, rfl⟩
                rw [← hX1] at c1 HC HCE
                rw [← hX0] at c2 HC HCE
                clear hX1 hX0 hr
                by_cases hrn : r < 0
                · have hrd : decide (r < 0) = true := by simp; omega
                  go_wp2_with fail
                  go_region_held3 (fun w' => w'.cell? ⟨g, i, none⟩ = some (.int .i64 X1) ∧ w'.cell? ⟨g, lo, none⟩ = some (.int .i64 X0)) (first | (constructor <;> assumption) | assumption | go_keep) (first | (go_at_call 24; refine (HC.out _ (by exact hps.out.srt.drew)).mono ?_; rintro e w3 ⟨rfl, hs3⟩; have hc3 := HCE.out _ hs3))
                  have H3 := hide (hps.out.more hij (HLT.out.1 hrn) hs3)
                  clear hs3 hc3 c1 c2 HC HCE hps
                  go_wp2
                  go_roundw
                  case rel => exact ⟨i + 1, by go_num, H3, hide (Nat.le_succ_of_le hb.out)⟩
                  case measure => simp [intOf]; omega
                · have hrd : decide (r < 0) = false := by simp; omega
                  go_wp2_with fail
                  go_region_held3 (fun w' => w'.cell? ⟨g, i, none⟩ = some (.int .i64 X1) ∧ w'.cell? ⟨g, lo, none⟩ = some (.int .i64 X0)) (first | (constructor <;> assumption) | assumption | go_keep) (first | (go_at_call 24; refine (HC.out _ (by exact hps.out.srt.drew)).mono ?_; rintro e w3 ⟨rfl, hs3⟩; have hc3 := HCE.out _ hs3))
                  have H3 := hide (hps.out.to hs3)
                  have HE : Hid (E1 σ lo i j0 y) := hide (Or.inr (by have := HLT.out; omega))
                  clear hs3 hc3 c1 c2 HC HCE hps
                  go_wp2
                  go_meet
                  exact ⟨i, rfl, H3, HE, hb⟩
              · have hd : decide (i ≤ j0) = false := by simp; omega
                go_wp2_with fail
                go_quiet (fail)
                go_wp2
                go_meet
                exact ⟨i, rfl, hide (hps.out.to (hps.out.srt.drewN _)), hide (Or.inl (by omega)), hb⟩
          case rest =>
            clear hps
            obtain ⟨i, rfl, hps, hq1, hb1⟩ := hcut
            go_upto_block 8 with fail
            go_cut [13] (fun v w' => ∃ j : Nat, v = .int .i64 (j : Int) ∧ Hid (PS w0 g c n B σ lo hi x i j y w') ∧ Hid (E1 σ lo i j y) ∧ Hid (E2 σ lo i j y) ∧ Hid (j ≤ j0))
            case first =>
              go_wp2_with fail
              go_loopw [13] (fun v wr => ∃ j : Nat, v = .int .i64 (j : Int) ∧ Hid (PS w0 g c n B σ lo hi x i j y wr) ∧ Hid (E1 σ lo i j y) ∧ Hid (j ≤ j0)) (fun v _ => (intOf v).toNat)
              case atStart => exact ⟨j0, rfl, hps, hq1, hide (Nat.le_refl _)⟩
              case round =>
                clear hps hq1
                obtain ⟨j, rfl, hps, hq1, hb⟩ := hrel
                have p1 := hps.out.a
                have p2 := hps.out.b
                have p3 := hps.out.d
                have p4 := hps.out.e
                by_cases hij : i ≤ j
                · obtain ⟨m, hm⟩ : ∃ m, j = m + 1 := ⟨j - 1, by omega⟩
                  have HM := hide hm
                  have hm100 : m ≤ 100 := by omega
                  clear hm
                  have hd : decide (i ≤ j) = true := by simp; omega
                  have hd2 : decide ((i : Int) ≤ (j : Int)) = true := by simp; omega
                  have c1 := hps.out.srt.cell (k := j) (by omega)
                  have c2 := hps.out.srt.cell (k := lo) (by omega)
                  have i1 : (j : Int) < (n : Int) := by omega
                  have i2 : j < n := by omega
                  have i3 : (0 : Int) ≤ (j : Int) := by omega
                  have HC := hide (fun W (h : Srt w0 g c n B σ y W) => h.cmp (i := j) (j := lo) (by omega) (by omega))
                  have HCE := hide (fun W (h : Srt w0 g c n B σ y W) => And.intro (h.cell (k := j) (by omega)) (h.cell (k := lo) (by omega)))
                  have HLT := hide (HL.out (y j) (y lo))
                  generalize hr : ordI σ (y j) (y lo) = r at *
                  obtain ⟨X1, hX1⟩ : ∃ X : Int, X = ((y j : Nat) : Int) := ⟨_, rfl⟩
                  obtain ⟨X0, hX0⟩ : ∃ X : Int, X = ((y lo : Nat) : Int) := ⟨_, rfl⟩
                  rw [← hX1] at c1 HC HCE
                  rw [← hX0] at c2 HC HCE
                  clear hX1 hX0 hr
                  have HQ1 : Hid (¬ r < 0 → key σ (y lo) ≤ key σ (y j)) := fun h => by have := HLT.out; omega
                  have HQ2 : Hid (E1 σ lo i j y → E1 σ lo i m y) := fun h => h.imp (fun h => by have := HM.out; omega) id
                  obtain ⟨i4, i5⟩ := wraps HM.out hm100
                  by_cases hrn : r < 0
                  · have hrd : decide (r < 0) = true := decide_eq_true hrn
                    go_wp2_with fail
                    go_region_held3 (fun w' => w'.cell? ⟨g, j, none⟩ = some (.int .i64 X1) ∧ w'.cell? ⟨g, lo, none⟩ = some (.int .i64 X0)) (first | (constructor <;> assumption) | assumption | go_keep) (first | (go_at_call 24; refine (HC.out _ (by exact hps.out.srt.drew)).mono ?_; rintro e w3 ⟨rfl, hs3⟩; have hc3 := HCE.out _ hs3))
                    have H3 := hide (hps.out.to hs3)
                    have HE : Hid (E2 σ lo i j y) := hide (Or.inr (HLT.out.1 hrn))
                    clear hs3 hc3 c1 c2 HC HCE hps
                    go_wp2
                    go_meet
                    exact ⟨j, rfl, H3, hq1, HE, hb⟩
                  · have hrd : decide (r < 0) = false := decide_eq_false hrn
                    go_wp2_with fail
                    go_region_held3 (fun w' => w'.cell? ⟨g, j, none⟩ = some (.int .i64 X1) ∧ w'.cell? ⟨g, lo, none⟩ = some (.int .i64 X0)) (first | (constructor <;> assumption) | assumption | go_keep) (first | (go_at_call 24; refine (HC.out _ (by exact hps.out.srt.drew)).mono ?_; rintro e w3 ⟨rfl, hs3⟩; have hc3 := HCE.out _ hs3))
                    have H3 := hide (hps.out.less' HM.out hij (HQ1.out hrn) hs3)
                    have HE : Hid (E1 σ lo i m y) := hide (HQ2.out hq1.out)
                    clear hs3 hc3 c1 c2 HC HCE hps hq1
                    go_wp2
                    go_roundw
                    case rel => exact ⟨m, by go_num, H3, HE, hide (le_pred HM.out hb.out)⟩
                    case measure => exact dec1 HM.out
                · have hd : decide (i ≤ j) = false := by simp; omega
                  go_wp2_with fail
                  go_quiet (fail)
                  go_wp2
                  go_meet
                  exact ⟨j, rfl, hide (hps.out.to (hps.out.srt.drewN _)), hq1, hide (Or.inl (by omega)), hb⟩
            case rest =>
              clear hps hq1
              obtain ⟨j, rfl, hps, hq1, hq2, hb2⟩ := hcut
              have p1 := hps.out.a
              have p2 := hps.out.b
              have p3 := hps.out.d
              have p4 := hps.out.e
              by_cases hij : j < i
              · have hd : decide (j < i) = true := by simp; omega
                have c1 := hps.out.srt.cell (k := j) (by omega)
                have c2 := hps.out.srt.cell (k := lo) (by omega)
                have f1 := hps.out.srt.row.frozen j
                have f2 := hps.out.srt.row.frozen lo
                have s1 := cell_swap c1 c2
                have s2 : (wc.setCell ⟨g, j, none⟩ (.int .i64 ((y lo : Nat) : Int))).frozen? ⟨g, lo, none⟩ = false := by rw [World.frozen?_setCell]; exact f2
                have i1 : (j : Int) < (n : Int) := by omega
                have i2 : j < n := by omega
                have HSW := hide (hps.out.srt.swap (i := j) (j := lo) (by omega) (by omega))
                have HLA := hide (hps.out.last hij)
                generalize swp y j lo = z at *
                generalize ((y j : Nat) : Int) = X1 at *
                generalize ((y lo : Nat) : Int) = X2 at *
                clear hps hq1 hq2
                go_wp2_with fail
                go_region
                go_wp2
                go_ret2
                exact ⟨j, false, z, rfl, HLA.out.1, HLA.out.2, HSW.out.drew⟩
              · obtain ⟨m, hm⟩ : ∃ m, j = m + 1 := ⟨j - 1, by omega⟩
                have HM := hide hm
                have hm100 : m ≤ 100 := by omega
                clear hm
                have hd : decide (j < i) = false := by simp; omega
                have hd2 : decide ((j : Int) < (i : Int)) = false := by simp; omega
                have c1 := hps.out.srt.cell (k := i) (by omega)
                have c2 := hps.out.srt.cell (k := j) (by omega)
                have f1 := hps.out.srt.row.frozen i
                have f2 := hps.out.srt.row.frozen j
                have s1 := cell_swap c1 c2
                have s2 : (wc.setCell ⟨g, i, none⟩ (.int .i64 ((y j : Nat) : Int))).frozen? ⟨g, j, none⟩ = false := by rw [World.frozen?_setCell]; exact f2
                have i1 : (j : Int) < (n : Int) := by omega
                have i2 : j < n := by omega
                have i3 : (0 : Int) ≤ (j : Int) := by omega
                have i8 : (i : Int) < (n : Int) := by omega
                have i9 : i < n := by omega
                have hmeas : Hid (m + 1 - (i + 1) < j0 + 1 - i0) := hide (meas_lt hb1.out (HM.out ▸ hb2.out) (HM.out ▸ Nat.le_of_not_lt hij))
                have HSW := hide (hps.out.srt.swap (i := i) (j := j) (by omega) (by omega))
                have HP2 : Hid (∀ W', Srt w0 g c n B σ (swp y i j) W' → PS w0 g c n B σ lo hi x (i + 1) m (swp y i j) W') := hide (fun W' k => hps.out.turn' HM.out (by omega) hq1.out hq2.out k)
                generalize swp y i j = z at *
                generalize ((y i : Nat) : Int) = X1 at *
                generalize ((y j : Nat) : Int) = X2 at *
                clear hps hq1 hq2
                obtain ⟨i4, i5⟩ := wraps HM.out hm100
                go_wp2_with fail
                go_region
                have H0 : Hid (PS w0 g c n B σ lo hi x (i + 1) m z _) := hide (HP2.out _ HSW.out.drew)
                clear c1 c2 f1 f2 s1 s2 HSW HP2
                have hi100 : i ≤ 100 := Nat.le_trans (Nat.le_of_lt i9) (Nat.le_trans hn (by decide))
                obtain ⟨j8, j9⟩ := wrapUp hi100
                clear hij hd hd2 i1 i2 i3 i8 i9 hm100 p1 p2 p3 p4 q0 hi100
                go_wp2_with fail
                go_roundw
                case rel => exact ⟨i + 1, m, z, by simp, by first | rfl | exact pred_val HM.out, H0⟩
                case measure => exact meas2 hmeas.out

end Go.Proofs.Ytnciefdhgokffaa
