/-
  What the order of two timers comes to: cmp's Compare and Or, and wheel's order.
-/
import Derived.Test.YtnciefdhgokffaaSet
import Derived.Deep.DeepCutAuto
namespace Go.Proofs.Ytnciefdhgokffaa
open Go.RowKit

def cmpI (x y : Int) : Int := if x < y then -1 else if y < x then 1 else 0
def orI (a b : Int) : Int := if a = 0 then b else a
def ordI (σ : Ws) (x y : Nat) : Int := orI (cmpI ((σ.f x).due : Int) ((σ.f y).due : Int)) (cmpI ((σ.f x).set : Int) ((σ.f y).set : Int))
/-- Ticks and settings as one number. -/
def key (σ : Ws) (x : Nat) : Nat := (σ.f x).due * 1000001 + (σ.f x).set
theorem ordI_lt {K : Nat} (hK : K ≤ 1000000) {σ : Ws} (hO : Ok K σ) (x y : Nat) : ordI σ x y < 0 ↔ key σ x < key σ y := by
  have h1 := hO.set x
  have h2 := hO.set y
  have h3 := hO.small
  unfold ordI orI cmpI key
  by_cases a : (σ.f x).due < (σ.f y).due
  · have : (((σ.f x).due : Int) < ((σ.f y).due : Int)) := by omega
    simp [this]; omega
  · by_cases b : (σ.f y).due < (σ.f x).due
    · have e1 : ¬ (((σ.f x).due : Int) < ((σ.f y).due : Int)) := by omega
      have e2 : (((σ.f y).due : Int) < ((σ.f x).due : Int)) := by omega
      simp [e1, e2]; omega
    · have e0 : (σ.f x).due = (σ.f y).due := by omega
      rw [e0]
      simp only [Int.lt_irrefl, if_false, if_true]
      split
      · omega
      · split <;> omega

set_option maxHeartbeats 400000 in
theorem compare_any (x y : Int) (w : World) : Calls Try.prog 31 #[.int .i64 x, .int .i64 y] w fun e w' => e = .returned (.int .i64 (cmpI x y)) ∧ w' = w := by
  unfold cmpI
  by_cases h : x < y
  · rw [if_pos h]
    go_enter Try.func31, Try.ntmps31
    go_wp2
    go_ret
    exact ⟨rfl, rfl⟩
  · rw [if_neg h]
    by_cases h' : y < x
    · rw [if_pos h']
      go_enter Try.func31, Try.ntmps31
      go_wp2
      go_ret
      exact ⟨rfl, rfl⟩
    · rw [if_neg h']
      go_enter Try.func31, Try.ntmps31
      go_wp2
      go_ret
      exact ⟨rfl, rfl⟩

set_option maxHeartbeats 800000 in
theorem or_any (g c : Nat) (a b : Int) (w : World) (h0 : w.cell? ⟨g, 0, none⟩ = some (.int .i64 a)) (h1 : w.cell? ⟨g, 1, none⟩ = some (.int .i64 b)) :
    Calls Try.prog 30 #[.slice (some ⟨g, 0, none⟩) 2 c] w fun e w' => e = .returned (.int .i64 (orI a b)) ∧ w' = w := by
  unfold orI
  by_cases ha : a = 0
  · rw [if_pos ha]
    have ha' : (a != 0) = false := by simp [ha]
    have HA := hide ha
    clear ha
    by_cases hb : b = 0
    · have hb' : (b != 0) = false := by simp [hb]
      have HB := hide hb
      clear hb
      go_enter Try.func30, Try.ntmps30
      go_wp2
      refine wp_loop_rounds 3 ?_
      rw [rounds_succ]
      go_wp2
      rw [rounds_succ]
      go_wp2
      rw [rounds_succ]
      go_wp2
      go_ret
      exact ⟨by rw [HB.out]; rfl, rfl⟩
    · have hb' : (b != 0) = true := by simp [hb]
      go_enter Try.func30, Try.ntmps30
      go_wp2
      refine wp_loop_rounds 3 ?_
      rw [rounds_succ]
      go_wp2
      rw [rounds_succ]
      go_wp2
      go_ret
      exact ⟨rfl, rfl⟩
  · rw [if_neg ha]
    have ha' : (a != 0) = true := by simp [ha]
    go_enter Try.func30, Try.ntmps30
    go_wp2
    refine wp_loop_rounds 3 ?_
    rw [rounds_succ]
    go_wp2
    go_ret
    exact ⟨rfl, rfl⟩

set_option maxHeartbeats 2000000 in
theorem order_any (B : Nat) (σ : Ws) (x y : Nat) (hx : x < 16) (hy : y < 16) (w : World) (hA : AtW w B σ) :
    Calls Try.prog 24 #[.pointer (some ⟨B, 0, none⟩), .int .i64 (x : Int), .int .i64 (y : Int)] w fun e w' => e = .returned (.int .i64 (ordI σ x y)) ∧ Below w.heap.size w w' := by
  unfold ordI
  obtain ⟨p0, p1⟩ := hA.cells hx
  obtain ⟨r0, r1⟩ := hA.cells hy
  have hBl := hA.lt
  have hxz : (x : Int) < 16 := by omega
  have hyz : (y : Int) < 16 := by omega
  generalize ((σ.f x).due : Int) = a0 at *
  generalize ((σ.f x).set : Int) = a1 at *
  generalize ((σ.f y).due : Int) = b0 at *
  generalize ((σ.f y).set : Int) = b1 at *
  clear hA
  have n0 := World.new_ne w ⟨B, x * 2, none⟩ p0
  have n1 := World.new_ne w ⟨B, x * 2 + 1, none⟩ p1
  have n2 := World.new_ne w ⟨B, y * 2, none⟩ r0
  have n3 := World.new_ne w ⟨B, y * 2 + 1, none⟩ r1
  have C1 := hide (fun W => compare_any a0 b0 W)
  have C2 := hide (fun W => compare_any a1 b1 W)
  have C3 := hide (fun g W h0 h1 => or_any g 2 (cmpI a0 b0) (cmpI a1 b1) W h0 h1)
  generalize orI (cmpI a0 b0) (cmpI a1 b1) = R at *
  generalize cmpI a0 b0 = c0 at *
  generalize cmpI a1 b1 = c1 at *
  go_enter Try.func24, Try.ntmps24
  go_wp2_with fail
  go_cut [7, 8] (fun s7 s8 w' => ∃ g h : Nat, s7 = .pointer (some ⟨g, 0, none⟩) ∧ s8 = .pointer (some ⟨h, 0, none⟩) ∧ Below w.heap.size w w' ∧ g < w'.heap.size ∧ h < w'.heap.size
     ∧ w'.cell? ⟨g, 0, none⟩ = some (.int .i64 a0) ∧ w'.cell? ⟨g, 1, none⟩ = some (.int .i64 a1) ∧ w'.cell? ⟨h, 0, none⟩ = some (.int .i64 b0) ∧ w'.cell? ⟨h, 1, none⟩ = some (.int .i64 b1))
  case first =>
    go_region_held3 (fun w' => w'.cell? ⟨B, x * 2, none⟩ = some (.int .i64 a0) ∧ w'.cell? ⟨B, x * 2 + 1, none⟩ = some (.int .i64 a1) ∧ w'.cell? ⟨B, y * 2, none⟩ = some (.int .i64 b0) ∧ w'.cell? ⟨B, y * 2 + 1, none⟩ = some (.int .i64 b1)) (go_keep) (fail)
    all_goals
      go_wp2_with fail
      go_meet
      refine ⟨_, _, rfl, rfl, (((Below.refl _ _).alloc (Nat.le_refl _) _).alloc (by simp) _).drew, ?_, ?_, ?_, ?_, ?_, ?_⟩
      all_goals first
        | (go_simp; done)
        | omega
        | (simp <;> omega)
  case rest =>
    obtain ⟨g, h, rfl, rfl, hB, hg, hh, q1, q2, q3, q4⟩ := hcut
    have HB := hide hB
    have hz := hB.size
    clear hB p0 p1 r0 r1 n0 n1 n2 n3
    have m1 := World.new_ne wc ⟨g, 0, none⟩ q1
    have m2 := World.new_ne wc ⟨h, 0, none⟩ q3
    go_wp2_with fail
    go_region_held3 (fun w' => w'.cell? ⟨g, 0, none⟩ = some (.int .i64 a0) ∧ w'.cell? ⟨g, 1, none⟩ = some (.int .i64 a1) ∧ w'.cell? ⟨h, 0, none⟩ = some (.int .i64 b0) ∧ w'.cell? ⟨h, 1, none⟩ = some (.int .i64 b1)) (go_keep) (first | (go_at_call 31; first | (with_reducible refine (C1.out _).mono ?_; rintro e w3 ⟨rfl, hw3⟩; have hw3' := hw3.symm; clear hw3; subst hw3') | (with_reducible refine (C2.out _).mono ?_; rintro e w3 ⟨rfl, hw3⟩; have hw3' := hw3.symm; clear hw3; subst hw3')) | (go_at_call 30; refine (C3.out _ _ (by simp) (by simp)).mono ?_; rintro e w3 ⟨rfl, hw3⟩; have hw3' := hw3.symm; clear hw3; subst hw3'))
    all_goals
      go_wp2
      go_ret
      exact ⟨rfl, (HB.out.alloc hz _).drew⟩

end Go.Proofs.Ytnciefdhgokffaa
