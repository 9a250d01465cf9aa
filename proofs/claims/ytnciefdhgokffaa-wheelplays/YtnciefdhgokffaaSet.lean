/-
  What wheel's Set and New come to.
-/
import Derived.Test.YtnciefdhgokffaaSmall
namespace Go.Proofs.Ytnciefdhgokffaa
open Go.RowKit

theorem AtW.setAll {w : World} {B : Nat} {σ : Ws} (h : AtW w B σ) {k : Nat} (hk : k < 16) (d : Nat) :
    AtW (((w.setCell ⟨B, 33, none⟩ (.int .i64 ((σ.s + 1 : Nat) : Int))).setCell ⟨B, k * 2, none⟩ (.int .i64 (d : Int))).setCell ⟨B, k * 2 + 1, none⟩ (.int .i64 ((σ.s + 1 : Nat) : Int))) B ⟨σ.n, σ.s + 1, upd σ.f k ⟨d, σ.s + 1⟩⟩ :=
  (h.count (σ.s + 1)).put hk ⟨d, σ.s + 1⟩

set_option maxHeartbeats 1000000 in
theorem set_any (K : Nat) (hK : K ≤ 1000000) (B : Nat) (σ : Ws) (id t : Int) (w : World) (hO : Ok K σ) (hA : AtW w B σ) :
    Calls Try.prog 15 #[.pointer (some ⟨B, 0, none⟩), .int .i64 id, .int .i64 t] w fun e w' => e = .returned (.bool (setB σ id)) ∧ Now B (setOf σ id t) w w' := by
  have hH := has_any B σ id w hA
  have hb := fun W => bounded_any t W
  rw [← holdN_int] at hb
  generalize hD : holdN t = D at hb
  have HD := hide hD
  clear hD
  have hs := hO.small
  have hn := hO.n16
  unfold setOf setB
  by_cases hk : hasT σ id
  · rw [decide_eq_true hk] at hH ⊢
    rw [if_pos hk]
    obtain ⟨k, rfl⟩ : ∃ k : Nat, id = (k : Int) := ⟨id.toNat, by have := hk.1; omega⟩
    rw [Int.toNat_natCast]
    have hk' : k < 16 := by have := hk.2; omega
    have hkz : (k : Int) < 16 := by omega
    obtain ⟨p0, p1⟩ := hA.cells hk'
    obtain ⟨c0, c1⟩ := hA.tops
    have q0 := hA.frozen (k * 2)
    have q1 := hA.frozen (k * 2 + 1)
    have q2 := hA.frozen 33
    have HA := hide hA
    have HP : Hid (∀ d : Nat, AtW (((w.setCell ⟨B, 33, none⟩ (.int .i64 ((σ.s + 1 : Nat) : Int))).setCell ⟨B, k * 2, none⟩ (.int .i64 (d : Int))).setCell ⟨B, k * 2 + 1, none⟩ (.int .i64 ((σ.s + 1 : Nat) : Int))) B ⟨σ.n, σ.s + 1, upd σ.f k ⟨d, σ.s + 1⟩⟩) := fun d => hA.setAll hk' d
    rw [HD.out]
    have hw : IntKind.i64.wrap ((σ.s : Int) + 1) = ((σ.s + 1 : Nat) : Int) := by rw [wrapB (by omega)]; omega
    generalize hS : σ.s + 1 = S at *
    clear hA hk hO hs hn
    have x1 : (w.setCell ⟨B, 33, none⟩ (.int .i64 (S : Int))).cell? ⟨B, 33, none⟩ = some (.int .i64 (S : Int)) := World.cell?_setCell_same _ _ _ c1
    have x2 : (w.setCell ⟨B, 33, none⟩ (.int .i64 (S : Int))).cell? ⟨B, k * 2, none⟩ = some (.int .i64 ((σ.f k).due : Int)) := (World.cell?_setCell_other _ _ _ _ (by intro e; simp only [Addr.mk.injEq] at e; omega)).trans p0
    have x3 : (w.setCell ⟨B, 33, none⟩ (.int .i64 (S : Int))).cell? ⟨B, k * 2 + 1, none⟩ = some (.int .i64 ((σ.f k).set : Int)) := (World.cell?_setCell_other _ _ _ _ (by intro e; simp only [Addr.mk.injEq] at e; omega)).trans p1
    go_enter Try.func15, Try.ntmps15
    go_wp2_with (go_at_call 26; refine hH.mono ?_; rintro e w2 ⟨rfl, hw2⟩; subst hw2)
    generalize hW : w2.setCell ⟨B, 33, none⟩ (.int .i64 (S : Int)) = W at *
    have HW := hide hW
    have z0 : W.frozen? ⟨B, k * 2, none⟩ = false := by rw [← hW, World.frozen?_setCell]; exact q0
    have z1 : W.frozen? ⟨B, k * 2 + 1, none⟩ = false := by rw [← hW, World.frozen?_setCell]; exact q1
    have x4 : ((W.setCell ⟨B, k * 2, none⟩ (.int .i64 (D : Int))).setCell ⟨B, k * 2 + 1, none⟩ (.int .i64 (S : Int))).drew.cell? ⟨B, 33, none⟩ = some (.int .i64 (S : Int)) :=
      ((World.cell?_setCell_other _ _ _ _ (by intro e; simp only [Addr.mk.injEq] at e; omega)).trans (World.cell?_setCell_other _ _ _ _ (by intro e; simp only [Addr.mk.injEq] at e; omega))).trans x1
    clear hW hH p0 p1 c0 c1 q0 q1 q2
    go_region_held3 (fun w' => w'.cell? ⟨B, 33, none⟩ = some (.int .i64 (S : Int))) (first | assumption | exact x4 | go_keep) (first | (go_at_call 22; refine (hb _).mono ?_; rintro e w3 ⟨rfl, hw3⟩; have hw3' := hw3.symm; clear hw3; subst hw3'))
    go_wp2
    go_ret
    refine ⟨rfl, (HP.out D).same rfl, ?_⟩
    rw [← HW.out]
    exact ((((Turn.refl _ _).set _ _).set _ _).set _ _).drew
  · rw [decide_eq_false hk] at hH ⊢
    rw [if_neg hk]
    have HA := hide hA
    clear hA hk
    go_enter Try.func15, Try.ntmps15
    go_wp2_with (go_at_call 26; refine hH.mono ?_; rintro e w2 ⟨rfl, hw2⟩; subst hw2)
    go_ret
    exact ⟨rfl, HA.out, Turn.refl _ _⟩
set_option maxHeartbeats 400000 in
theorem set_nil (id t : Int) (w : World) : Calls Try.prog 15 #[.pointer none, .int .i64 id, .int .i64 t] w fun e w' => e = .returned (.bool false) ∧ w' = w := by
  go_enter Try.func15, Try.ntmps15
  go_wp2_with (go_at_call 26; refine (has_nil _ _).mono ?_; rintro e w2 ⟨rfl, rfl⟩)
  go_ret
  exact ⟨rfl, rfl⟩

def heldN (n : Int) : Nat := (min (max n 0) 16).toNat
theorem heldN_le (n : Int) : heldN n ≤ 16 := by unfold heldN; omega

set_option maxHeartbeats 1000000 in
theorem new_any (n : Int) (w : World) : Calls Try.prog 8 #[.int .i64 n] w fun e w' => e = .returned (.pointer (some ⟨w.heap.size, 0, none⟩)) ∧ AtW w' w.heap.size (newOf (heldN n)) ∧ Below w.heap.size w w' := by
  obtain ⟨M, hM⟩ : ∃ M : Int, M = max n 0 := ⟨_, rfl⟩
  have hN : ((heldN n : Nat) : Int) = min M 16 := by unfold heldN; omega
  have hmx : ∀ (ats : Array TypeId) (ty : TypeId), Builtin.max_ ats ty #[.int .i64 n, .int .i64 0] = pure (.int .i64 M) := fun _ _ => by
    by_cases h : n < 0
    · simp [Builtin.max_, Builtin.max2, h, show M = 0 by omega]
    · simp [Builtin.max_, Builtin.max2, h, show M = n by omega]
  have hmn : ∀ (ats : Array TypeId) (ty : TypeId), Builtin.min_ ats ty #[.int .i64 M, .int .i64 16] = pure (.int .i64 ((heldN n : Nat) : Int)) := fun _ _ => by
    by_cases h : 16 < M
    · simp [Builtin.min_, Builtin.min2, h, show ((heldN n : Nat) : Int) = 16 by omega]
    · simp [Builtin.min_, Builtin.min2, h, show ((heldN n : Nat) : Int) = M by omega]
  clear hM hN
  generalize heldN n = N at *
  go_enter Try.func8, Try.ntmps8
  go_wp2
  go_ret
  refine ⟨rfl, ⟨_, heap_alloc_new _ _, by simp, by simp [newOf], by simp [newOf], fun i hi => ?_⟩, (Below.refl _ _).alloc (Nat.le_refl _) _⟩
  match i, hi with
  | 0, _ | 1, _ | 2, _ | 3, _ | 4, _ | 5, _ | 6, _ | 7, _ | 8, _ | 9, _ | 10, _ | 11, _ | 12, _ | 13, _ | 14, _ | 15, _ => simp [newOf]
  | n + 16, h => omega

end Go.Proofs.Ytnciefdhgokffaa
