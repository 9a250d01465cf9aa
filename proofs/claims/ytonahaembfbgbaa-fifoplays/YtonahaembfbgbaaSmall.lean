/-
  What fifo's bounded, end, hasQueue, hasItem, Where, Remove and Push come to.
-/
import Derived.Test.YtonahaembfbgbaaBase
namespace Go.Proofs.Ytonahaembfbgbaa
open Go.RowKit

theorem wrapB {n : Int} (h : -9223372036854775808 ≤ n ∧ n ≤ 9223372036854775807) : IntKind.i64.wrap n = n := by rw [IntKind.wrap_i64]; omega

def heldN (n : Int) : Nat := (min (max n 0) 32).toNat
theorem heldN_le (n : Int) : heldN n ≤ 32 := by unfold heldN; omega

set_option maxHeartbeats 400000 in
theorem bounded_any (n : Int) (w : World) : Calls Try.prog 22 #[.int .i64 n] w fun e w' => e = .returned (.int .i64 (heldN n : Int)) ∧ w' = w := by
  obtain ⟨M, hM⟩ : ∃ M : Int, M = max n 0 := ⟨_, rfl⟩
  have hN : ((heldN n : Nat) : Int) = min M 32 := by unfold heldN; omega
  have hmx : ∀ (ats : Array TypeId) (ty : TypeId), Builtin.max_ ats ty #[.int .i64 n, .int .i64 0] = pure (.int .i64 M) := fun _ _ => by
    by_cases h : n < 0
    · simp [Builtin.max_, Builtin.max2, h, show M = 0 by omega]
    · simp [Builtin.max_, Builtin.max2, h, show M = n by omega]
  have hmn : ∀ (ats : Array TypeId) (ty : TypeId), Builtin.min_ ats ty #[.int .i64 M, .int .i64 32] = pure (.int .i64 ((heldN n : Nat) : Int)) := fun _ _ => by
    by_cases h : 32 < M
    · simp [Builtin.min_, Builtin.min2, h, show ((heldN n : Nat) : Int) = 32 by omega]
    · simp [Builtin.min_, Builtin.min2, h, show ((heldN n : Nat) : Int) = M by omega]
  clear hM hN
  generalize heldN n = N at *
  go_enter Try.func22, Try.ntmps22
  go_wp2
  go_ret
  exact ⟨rfl, rfl⟩

set_option maxHeartbeats 400000 in
theorem end_any (B P n ni : Nat) (f : Nat → Plc) (k : Nat) (hn : ni ≤ 1000) (hk : k ≤ 1000) (w : World) (hA : AtF w B P n ni f) :
    Calls Try.prog 23 #[.pointer (some ⟨B, 0, none⟩), .int .i64 (k : Int)] w fun e w' => e = .returned (.int .i64 ((ni + k : Nat) : Int)) ∧ w' = w := by
  obtain ⟨c0, c1⟩ := hA.cells
  clear hA
  go_enter Try.func23, Try.ntmps23
  go_wp2
  go_ret
  exact ⟨by simp, rfl⟩

/-- Only the number of draws may have changed. -/
def Drawn (w w' : World) : Prop := Below w.heap.size w w' ∧ w'.heap = w.heap
theorem Drawn.at {w w' : World} {B P n ni : Nat} {f : Nat → Plc} (h : Drawn w w') (hA : AtF w B P n ni f) : AtF w' B P n ni f := hA.same (by rw [h.2]) (by rw [h.2])
theorem Drawn.cell {w w' : World} (h : Drawn w w') (p : Addr) : w'.cell? p = w.cell? p := by unfold World.cell?; rw [h.2]
theorem Drawn.frozen {w w' : World} (h : Drawn w w') (p : Addr) : w'.frozen? p = w.frozen? p := by unfold World.frozen?; rw [h.2]
theorem drawn_refl (w : World) : Drawn w w := ⟨Below.refl _ _, rfl⟩
theorem drawn_n (w : World) (n : Nat) : Drawn w (w.drewN n) := ⟨below_drewN _ _, rfl⟩
theorem Drawn.trans {a b c : World} (h : Drawn a b) (k : Drawn b c) : Drawn a c := ⟨h.1.trans (k.1.mono h.1.size), k.2.trans h.2⟩

set_option maxHeartbeats 400000 in
theorem hasQ_yes (B P n ni : Nat) (f : Nat → Plc) (k : Int) (hn : n ≤ 1000) (hni : ni ≤ n) (h : 0 ≤ k ∧ k < ((n - ni : Nat) : Int)) (w : World) (hA : AtF w B P n ni f) :
    Calls Try.prog 26 #[.pointer (some ⟨B, 0, none⟩), .int .i64 k] w fun e w' => e = .returned (.bool true) ∧ Drawn w w' := by
  obtain ⟨c0, c1⟩ := hA.cells
  have h0 : decide (0 ≤ k) = true := by simp; omega
  have hw : IntKind.i64.wrap ((n : Int) - (ni : Int)) = (n : Int) - (ni : Int) := wrapB (by omega)
  have h1 : decide (k < (n : Int) - (ni : Int)) = true := by simp; omega
  obtain ⟨N, hN⟩ : ∃ N : Int, N = (n : Int) - (ni : Int) := ⟨_, rfl⟩
  clear hA
  go_enter Try.func26, Try.ntmps26
  go_wp2_with fail
  go_quiet (fail)
  go_wp2
  go_ret
  exact ⟨rfl, drawn_n _ _⟩

set_option maxHeartbeats 400000 in
theorem hasQ_no (B P n ni : Nat) (f : Nat → Plc) (k : Int) (hn : n ≤ 1000) (hni : ni ≤ n) (h : ¬ (0 ≤ k ∧ k < ((n - ni : Nat) : Int))) (w : World) (hA : AtF w B P n ni f) :
    Calls Try.prog 26 #[.pointer (some ⟨B, 0, none⟩), .int .i64 k] w fun e w' => e = .returned (.bool false) ∧ Drawn w w' := by
  obtain ⟨c0, c1⟩ := hA.cells
  clear hA
  by_cases hk : 0 ≤ k
  · have h0 : decide (0 ≤ k) = true := by simp; omega
    have hw : IntKind.i64.wrap ((n : Int) - (ni : Int)) = (n : Int) - (ni : Int) := wrapB (by omega)
    have h1 : decide (k < (n : Int) - (ni : Int)) = false := by simp; omega
    clear h
    go_enter Try.func26, Try.ntmps26
    go_wp2_with fail
    go_quiet (fail)
    go_wp2
    go_ret
    exact ⟨rfl, drawn_n _ _⟩
  · have h0 : decide (0 ≤ k) = false := by simp; omega
    clear h
    go_enter Try.func26, Try.ntmps26
    go_wp2_with fail
    go_quiet (fail)
    go_wp2
    go_ret
    exact ⟨rfl, drawn_n _ _⟩

set_option maxHeartbeats 400000 in
theorem hasQ_nil (k : Int) (w : World) :
    Calls Try.prog 26 #[.pointer none, .int .i64 k] w fun e w' => e = .returned (.bool false) ∧ Drawn w w' := by
  go_enter Try.func26, Try.ntmps26
  go_wp2_with fail
  go_quiet (fail)
  go_wp2
  go_ret
  exact ⟨rfl, drawn_n _ _⟩

set_option maxHeartbeats 400000 in
theorem hasI_yes (B P n ni : Nat) (f : Nat → Plc) (x : Int) (h : 0 ≤ x ∧ x < (ni : Int)) (w : World) (hA : AtF w B P n ni f) :
    Calls Try.prog 27 #[.pointer (some ⟨B, 0, none⟩), .int .i64 x] w fun e w' => e = .returned (.bool true) ∧ w' = w := by
  obtain ⟨c0, c1⟩ := hA.cells
  have h0 : decide (0 ≤ x) = true := by simp; omega
  have h1 : decide (x < (ni : Int)) = true := by simp; omega
  clear hA
  go_enter Try.func27, Try.ntmps27
  go_wp2
  go_ret
  exact ⟨rfl, rfl⟩
set_option maxHeartbeats 400000 in
theorem hasI_no (B P n ni : Nat) (f : Nat → Plc) (x : Int) (h : ¬ (0 ≤ x ∧ x < (ni : Int))) (w : World) (hA : AtF w B P n ni f) :
    Calls Try.prog 27 #[.pointer (some ⟨B, 0, none⟩), .int .i64 x] w fun e w' => e = .returned (.bool false) ∧ w' = w := by
  obtain ⟨c0, c1⟩ := hA.cells
  clear hA
  by_cases hk : 0 ≤ x
  · have h0 : decide (0 ≤ x) = true := by simp; omega
    have h1 : decide (x < (ni : Int)) = false := by simp; omega
    clear h
    go_enter Try.func27, Try.ntmps27
    go_wp2
    go_ret
    exact ⟨rfl, rfl⟩
  · have h0 : decide (0 ≤ x) = false := by simp; omega
    clear h
    go_enter Try.func27, Try.ntmps27
    go_wp2
    go_ret
    exact ⟨rfl, rfl⟩
set_option maxHeartbeats 400000 in
theorem hasI_nil (x : Int) (w : World) :
    Calls Try.prog 27 #[.pointer none, .int .i64 x] w fun e w' => e = .returned (.bool false) ∧ w' = w := by
  go_enter Try.func27, Try.ntmps27
  go_wp2
  go_ret
  exact ⟨rfl, rfl⟩

set_option maxHeartbeats 400000 in
theorem where_f (B P n ni : Nat) (f : Nat → Plc) (x : Int) (hni : ni ≤ n) (w : World) (hA : AtF w B P n ni f) :
    Calls Try.prog 19 #[.pointer (some ⟨B, 0, none⟩), .int .i64 x] w fun e w' => e = .returned (.int .i64 (if 0 ≤ x ∧ x < (ni : Int) then (f x.toNat).q else -1)) ∧ w' = w := by
  obtain ⟨c0, c1⟩ := hA.cells
  by_cases hi : 0 ≤ x ∧ x < (ni : Int)
  · rw [if_pos hi]
    obtain ⟨y, rfl⟩ : ∃ y : Nat, x = (y : Int) := ⟨x.toNat, by omega⟩
    rw [Int.toNat_natCast]
    obtain ⟨p0, _, _⟩ := hA.row.cells (k := y) (by omega)
    have hI := fun W => hasI_yes B P n ni f (y : Int) hi W
    have hy : (y : Int) < (n : Int) := by omega
    go_enter Try.func19, Try.ntmps19
    go_wp2_with (go_at_call 27; refine (hI _ hA).mono ?_; rintro e w2 ⟨rfl, rfl⟩)
    go_ret
    exact ⟨rfl, rfl⟩
  · rw [if_neg hi]
    have hI := fun W => hasI_no B P n ni f x hi W
    go_enter Try.func19, Try.ntmps19
    go_wp2_with (go_at_call 27; refine (hI _ hA).mono ?_; rintro e w2 ⟨rfl, rfl⟩)
    go_ret
    exact ⟨rfl, rfl⟩
set_option maxHeartbeats 400000 in
theorem where_nil (x : Int) (w : World) :
    Calls Try.prog 19 #[.pointer none, .int .i64 x] w fun e w' => e = .returned (.int .i64 (-1)) ∧ w' = w := by
  have hI := fun W => hasI_nil x W
  go_enter Try.func19, Try.ntmps19
  go_wp2_with (go_at_call 27; refine (hI _).mono ?_; rintro e w2 ⟨rfl, rfl⟩)
  go_ret
  exact ⟨rfl, rfl⟩

theorem where_any (B P : Nat) (s : Qs) (x : Int) (w : World) (hA : AtQ w B P s) :
    Calls Try.prog 19 #[.pointer (some ⟨B, 0, none⟩), .int .i64 x] w fun e w' => e = .returned (.int .i64 (whereOf s x)) ∧ w' = w := by
  obtain ⟨f, hr, hA⟩ := hA
  refine (where_f B P _ _ f x (by omega) w hA).mono ?_
  rintro e w' ⟨rfl, rfl⟩
  refine ⟨?_, rfl⟩
  unfold whereOf
  by_cases hi : 0 ≤ x ∧ x < (s.ni : Int)
  · rw [if_pos hi, if_pos hi, hr.wh _ (by omega)]
  · rw [if_neg hi, if_neg hi]

end Go.Proofs.Ytonahaembfbgbaa
