/-
  What slices' exchanges at hazard come to: exchanges.
-/
import Derived.Test.YtnciefdhgokffaaPiv
import Derived.Test.YtnciefdhgokffaaSplit
import Derived.Test.YtnciefdhgokffaaLay
import Derived.BigRegion
namespace Go.Proofs.Ytnciefdhgokffaa
open Go.RowKit Go.Shelf Go.Lib

theorem next_any (rb ro X : Nat) (hX : X < 18446744073709551616) (w : World) (hc : w.cell? ⟨rb, ro, none⟩ = some (.int .u64 (X : Int))) (hf : w.frozen? ⟨rb, ro, none⟩ = false) :
    Calls Try.prog 46 #[.pointer (some ⟨rb, ro, none⟩)] w fun e w' => ∃ Y : Nat, Y < 18446744073709551616 ∧ e = .returned (.int .u64 (Y : Int)) ∧ w' = (w.setCell ⟨rb, ro, none⟩ (.int .u64 (Y : Int))).drewN 3 := by
  have h := AnyF.xorshift_Next (P := Try.prog) { sortL with } rb ro X hX w hc hf
  exact h.mono fun _ _ k => ⟨_, Sort.xorNextN_lt X hX, k.1, k.2⟩
theorem pow_any (n : Nat) (h1 : 13 ≤ n) (h2 : n ≤ 15) (w : World) : Calls Try.prog 45 #[.int .i64 (n : Int)] w fun e w' => e = .returned (.int .u64 16) ∧ w' = w := by
  have h := AnyF.nextPowerOfTwo (P := Try.prog) { sortL with } n (by omega) w
  refine h.mono fun _ _ k => ⟨k.1.trans ?_, k.2⟩
  obtain rfl | rfl | rfl : n = 13 ∨ n = 14 ∨ n = 15 := by omega
  all_goals rfl

theorem and15 (Y : Nat) (h : Y < 18446744073709551616) : bits .and .u64 (Y : Int) 15 = ((Y % 16 : Nat) : Int) := by
  rw [show (15 : Int) = ((15 : Nat) : Int) from rfl, bits_and_u64_nat _ _ h (by omega)]
  exact congrArg _ (Nat.and_two_pow_sub_one_eq_mod Y 4)
theorem wrapsB {Z O lo : Nat} (hZ : Z < 16) (hlo : lo ≤ 16) (hO : O < 16) : wrap64 (Z : Int) = (Z : Int) ∧ IntKind.i64.wrap (Z : Int) = (Z : Int) ∧ IntKind.i64.wrap ((lo : Int) + (O : Int)) = (lo : Int) + (O : Int) ∧ wrap64 ((lo : Int) + (O : Int)) = (lo : Int) + (O : Int) :=
  ⟨IntWalk.wrap64_in _ (by omega), wrapB (by omega), wrapB (by omega), IntWalk.wrap64_in _ (by omega)⟩
theorem wrapsC {Z O L : Nat} (hZ : Z < 16) (hL : L ≤ 15) (e : (O : Int) = (Z : Int) - (L : Int)) : IntKind.i64.wrap ((Z : Int) - (L : Int)) = (O : Int) ∧ wrap64 ((Z : Int) - (L : Int)) = (O : Int) :=
  ⟨by rw [wrapB (by omega)]; omega, by rw [IntWalk.wrap64_in _ (by omega)]; omega⟩
theorem meas3 {k lo : Nat} (h : lo + 8 - (k + 1) < lo + 8 - k) : lo + 8 - (intOf (.int .i64 ((k : Int) + 1))).toNat < lo + 8 - (intOf (.int .i64 (k : Int))).toNat := by simp only [intOf]; omega
/-- A row that is being sorted, and a number of 64 bits beside it. -/
structure Rnd (w0 : World) (g c n B : Nat) (σ : Ws) (x : Nat → Nat) (d X : Nat) (W : World) : Prop where
  srt : Srt w0 g c n B σ x W
  cell : W.cell? ⟨d, 0, none⟩ = some (.int .u64 (X : Int))
  frz : W.frozen? ⟨d, 0, none⟩ = false
  ge : w0.heap.size ≤ d
  lt : d < W.heap.size
  small : X < 18446744073709551616
theorem Rnd.next {w0 : World} {g c n B : Nat} {σ : Ws} {x : Nat → Nat} {d X : Nat} {W : World} (h : Rnd w0 g c n B σ x d X W) (hg : g < w0.heap.size) (hB : B < w0.heap.size) {Y : Nat} (hY : Y < 18446744073709551616) : Rnd w0 g c n B σ x d Y ((W.setCell ⟨d, 0, none⟩ (.int .u64 (Y : Int))).drewN 3) :=
  ⟨(h.srt.put hg hB h.ge _ _).drewN 3, World.cell?_setCell_same _ _ _ h.cell, (World.frozen?_setCell _ _ _ _).trans h.frz, h.ge, by simpa using h.lt, hY⟩
theorem Rnd.swap {w0 : World} {g c n B : Nat} {σ : Ws} {x : Nat → Nat} {d X : Nat} {W : World} (h : Rnd w0 g c n B σ x d X W) (hg : g < w0.heap.size) {i j : Nat} (hi : i < n) (hj : j < n) :
    Rnd w0 g c n B σ (swp x i j) d X ((W.setCell ⟨g, i, none⟩ (.int .i64 ((x j : Nat) : Int))).setCell ⟨g, j, none⟩ (.int .i64 ((x i : Nat) : Int))).drew := by
  have hne : d ≠ g := by have := h.ge; omega
  refine ⟨(h.srt.swap hi hj).drew, ?_, ?_, h.ge, by simpa using h.lt, h.small⟩
  · exact (World.cell?_setCell_other _ _ _ _ (by intro e; simp only [Addr.mk.injEq] at e; omega)).trans ((World.cell?_setCell_other _ _ _ _ (by intro e; simp only [Addr.mk.injEq] at e; omega)).trans h.cell)
  · exact (World.frozen?_setCell _ _ _ _).trans ((World.frozen?_setCell _ _ _ _).trans h.frz)

set_option maxHeartbeats 2000000 in
set_option maxRecDepth 100000 in
theorem break_any (w0 : World) (g c n B : Nat) (σ : Ws) (hn : n ≤ 16) (hg : g < w0.heap.size) (hB : B < w0.heap.size) (x : Nat → Nat) (lo L : Nat) (h1 : 13 ≤ L) (h2 : L ≤ 15) (hhi : lo + L ≤ n) (hi : Nat) (hhi1 : lo + L ≤ hi) (hhi2 : hi ≤ lo + L) (w : World) (hS : Srt w0 g c n B σ x w) :
    Calls Try.prog 35 #[.slice (some ⟨g, 0, none⟩) n c, .int .i64 (lo : Int), .int .i64 (hi : Int), .func (.func 24) #[.pointer (some ⟨B, 0, none⟩)] #[]] w fun e w' =>
      e = .returned (.tuple #[]) ∧ ∃ y, Sw lo hi x y ∧ Srt w0 g c n B σ y w' := by
  have HN := hide (fun X rb W hX hc hf => next_any rb 0 X hX W hc hf)
  have HP := hide (fun W => pow_any L h1 h2 W)
  have H := hide hS
  have hz := hS.turn.size
  have a1 : IntKind.i64.wrap ((hi : Int) - (lo : Int)) = (L : Int) := by rw [wrapB (by omega)]; omega
  have a2 : wrap64 ((hi : Int) - (lo : Int)) = (L : Int) := by rw [IntWalk.wrap64_in _ (by omega)]; omega
  have a3 : (L : Int) / 4 = 3 := by omega
  have a4 : (L : Int).tdiv 4 = 3 := by rw [Int.tdiv_eq_ediv_of_nonneg (by omega)]; omega
  clear hS
  go_enter Try.func35, Try.ntmps35
  go_wp2_with (go_at_call 45; refine (HP.out _).mono ?_; rintro e w' ⟨rfl, hw⟩; subst hw)
  go_loopw [11] (fun v wr => ∃ (k X : Nat) (y : Nat → Nat), v = .int .i64 (k : Int) ∧ lo + 5 ≤ k ∧ k ≤ lo + 8 ∧ Sw lo hi x y ∧ Hid (Rnd w0 g c n B σ y w.heap.size X wr)) (fun v _ => lo + 8 - (intOf v).toNat)
  case atStart => exact ⟨lo + 5, L, x, by simp <;> omega, by omega, by omega, .refl, hide ⟨H.out.below ((Below.refl _ _).alloc (Nat.le_refl _) _), by simp, by simp, hz, by simp, by omega⟩⟩
  case round =>
    clear HP H
    obtain ⟨k, X, y, rfl, hk1, hk2, hsw, hr⟩ := hrel
    by_cases hk : k ≤ lo + 7
    · have r1 := hr.out.cell
      have r2 := hr.out.frz
      have r3 := hr.out.small
      have hkd : (k : Int) ≤ (lo : Int) + 7 := by omega
      have hkd2 : decide ((k : Int) ≤ (lo : Int) + 6 + 1) = true := by simp; omega
      go_wp2_with fail
      refine (HN.out X _ _ r3 r1 r2).mono ?_
      rintro e w' ⟨Y, hY, rfl, hw⟩
      subst hw
      have HR := hide (hr.out.next hg hB hY)
      generalize hW : (wr.setCell ⟨w.heap.size, 0, none⟩ (.int .u64 (Y : Int))).drewN 3 = W at *
      clear hW hr r1 r2 r3
      have b1 := and15 Y hY
      obtain ⟨Z, hZ⟩ : ∃ Z, Z = Y % 16 := ⟨_, rfl⟩
      have hZ16 : Z < 16 := by omega
      rw [← hZ] at b1
      clear hZ hY
      obtain ⟨O, hO, hO2, hO3⟩ : ∃ O : Nat, O < L ∧ (Z < L → O = Z) ∧ (¬ Z < L → (O : Int) = (Z : Int) - (L : Int)) := by
        by_cases hzl : Z < L
        · exact ⟨Z, hzl, fun _ => rfl, fun h => absurd hzl h⟩
        · exact ⟨Z - L, by omega, fun h => absurd h hzl, fun _ => by omega⟩
      have c1 := HR.out.srt.cell (k := k) (by omega)
      have c2 := HR.out.srt.cell (k := lo + O) (by omega)
      have f1 := HR.out.srt.row.frozen k
      have f2 := HR.out.srt.row.frozen (lo + O)
      have s1 := cell_swap c1 c2
      have s2 : (W.setCell ⟨g, k, none⟩ (.int .i64 ((y (lo + O) : Nat) : Int))).frozen? ⟨g, lo + O, none⟩ = false := by rw [World.frozen?_setCell]; exact f2
      have HSW := hide (HR.out.swap hg (i := k) (j := lo + O) (by omega) (by omega))
      have hsw2 : Hid (Sw lo hi x (swp y k (lo + O))) := hide (hsw.step _ _ (by omega) (by omega) (by omega) (by omega))
      generalize swp y k (lo + O) = z at *
      generalize ((y k : Nat) : Int) = X1 at *
      generalize ((y (lo + O) : Nat) : Int) = X2 at *
      have i1 : (k : Int) < (n : Int) := by omega
      have i2 : k < n := by omega
      have i3 : lo + O < n := by omega
      have i4 : (lo : Int) + (O : Int) < (n : Int) := by omega
      have i8 : (0 : Int) ≤ (lo : Int) + (O : Int) := by omega
      have hO16 : O < 16 := by omega
      have hlo16 : lo ≤ 16 := by omega
      have hw1 : (k : Int) + 1 ≤ 9223372036854775807 := by omega
      have HK : Hid (lo + 5 ≤ k + 1 ∧ k + 1 ≤ lo + 8 ∧ lo + 8 - (k + 1) < lo + 8 - k) := hide ⟨by omega, by omega, by omega⟩
      have hk100 : k ≤ 100 := by omega
      clear HR hsw hk hkd hk1 hk2 hhi hhi1 hhi2 hz a3 a4 hn
      by_cases hzl : Z < L
      · have e := hO2 hzl
        subst e
        have z1 : decide (L ≤ O) = false := by simp; omega
        have z2 : decide ((L : Int) ≤ (O : Int)) = false := by simp; omega
        clear hO2 hO3 hZ16
        obtain ⟨b2, b3, i6, i7⟩ := wrapsB hO16 hlo16 hO16
        obtain ⟨j8, j9⟩ := wrapUp hk100
        clear hO hO16 hlo16 hk100 h1 h2 i3
        go_wp2_with fail
        go_region
        go_wp2
        go_roundw
        case rel => exact ⟨k + 1, Y, z, by simp, HK.out.1, HK.out.2.1, hsw2.out, HSW⟩
        case measure => exact meas3 HK.out.2.2
      · have e := hO3 hzl
        have z1 : decide (L ≤ Z) = true := by simp; omega
        have z2 : decide ((L : Int) ≤ (Z : Int)) = true := by simp; omega
        obtain ⟨z3, z4⟩ := wrapsC hZ16 h2 e
        obtain ⟨b2, b3, i6, i7⟩ := wrapsB hZ16 hlo16 hO16
        obtain ⟨j8, j9⟩ := wrapUp hk100
        clear hO hO16 hlo16 hk100 h1 h2 i3 hO2 hO3 e hZ16
        go_wp2_with fail
        go_region
        go_wp2
        go_roundw
        case rel => exact ⟨k + 1, Y, z, by simp, HK.out.1, HK.out.2.1, hsw2.out, HSW⟩
        case measure => exact meas3 HK.out.2.2
    · have hkd : decide ((k : Int) ≤ (lo : Int) + 6 + 1) = false := by simp; omega
      go_wp2
      go_end0
      exact ⟨rfl, y, hsw, hr.out.srt⟩

end Go.Proofs.Ytnciefdhgokffaa
