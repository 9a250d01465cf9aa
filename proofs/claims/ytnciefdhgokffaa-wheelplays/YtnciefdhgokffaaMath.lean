/-
  Timers as plain data: for each the tick at which it is due and the number of its setting.
-/
import Derived.Test.YtnciefdhgokffaaRows
import Derived.WalkKit
namespace Go.Proofs.Ytnciefdhgokffaa
open Go.RowKit

/-- The tick as which a number counts. -/
def hold (t : Int) : Int := if t < 0 then 0 else if 4611686018427387904 < t then 4611686018427387904 else t
theorem hold_ge (t : Int) : 0 ≤ hold t := by unfold hold; split <;> (try split) <;> omega
theorem hold_le (t : Int) : hold t ≤ 4611686018427387904 := by unfold hold; split <;> (try split) <;> omega
theorem hold_id {t : Int} (h0 : 0 ≤ t) (h1 : t ≤ 4611686018427387904) : hold t = t := by unfold hold; rw [if_neg (by omega), if_neg (by omega)]
theorem hold_hold (t : Int) : hold (hold t) = hold t := hold_id (hold_ge t) (hold_le t)
def holdN (t : Int) : Nat := (hold t).toNat
theorem holdN_int (t : Int) : ((holdN t : Nat) : Int) = hold t := by have := hold_ge t; unfold holdN; omega
theorem holdN_le (t : Int) : holdN t ≤ 4611686018427387904 := by have := hold_le t; unfold holdN; omega

structure Tm where
  due : Nat
  set : Nat
def upd (f : Nat → Tm) (k : Nat) (p : Tm) : Nat → Tm := fun i => if i = k then p else f i
theorem upd_same (f : Nat → Tm) (k : Nat) (p : Tm) : upd f k p k = p := by simp [upd]
theorem upd_other (f : Nat → Tm) {k i : Nat} (p : Tm) (h : i ≠ k) : upd f k p i = f i := by simp [upd, h]

structure Ws where
  n : Nat
  s : Nat
  f : Nat → Tm
structure Ok (K : Nat) (σ : Ws) : Prop where
  n16 : σ.n ≤ 16
  small : σ.s ≤ K
  due : ∀ i, (σ.f i).due ≤ 4611686018427387904
  set : ∀ i, (σ.f i).set ≤ σ.s
  one : ∀ i j, 0 < (σ.f i).set → (σ.f i).set = (σ.f j).set → i = j

abbrev hasT (σ : Ws) (id : Int) : Prop := 0 ≤ id ∧ id < (σ.n : Int)
abbrev setT (σ : Ws) (id : Int) : Prop := hasT σ id ∧ 0 < (σ.f id.toNat).set
def newOf (n : Nat) : Ws := ⟨n, 0, fun _ => ⟨0, 0⟩⟩
def setOf (σ : Ws) (id t : Int) : Ws := if hasT σ id then ⟨σ.n, σ.s + 1, upd σ.f id.toNat ⟨holdN t, σ.s + 1⟩⟩ else σ
def setB (σ : Ws) (id : Int) : Bool := decide (hasT σ id)
def stopOf (σ : Ws) (id : Int) : Ws := if setT σ id then ⟨σ.n, σ.s, upd σ.f id.toNat ⟨0, 0⟩⟩ else σ
def stopB (σ : Ws) (id : Int) : Bool := decide (setT σ id)
def atX (σ : Ws) (id : Int) : Int := if setT σ id then ((σ.f id.toNat).due : Int) else 0

theorem newOf_ok {n K : Nat} (h : n ≤ 16) : Ok K (newOf n) :=
  ⟨h, Nat.zero_le _, fun _ => Nat.zero_le _, fun _ => Nat.zero_le _, fun i j h _ => by simp [newOf] at h⟩
theorem Ok.more {K : Nat} {σ : Ws} (h : Ok K σ) {K' : Nat} (hk : K ≤ K') : Ok K' σ := ⟨h.n16, Nat.le_trans h.small hk, h.due, h.set, h.one⟩
theorem setOf_ok {K : Nat} {σ : Ws} (h : Ok K σ) (id t : Int) : Ok (K + 1) (setOf σ id t) := by
  unfold setOf
  split
  · refine ⟨h.n16, Nat.succ_le_succ h.small, fun i => ?_, fun i => ?_, fun i j => ?_⟩
    · by_cases e : i = id.toNat
      · simp only [e, upd_same]; exact holdN_le t
      · simp only [upd_other _ _ e]; exact h.due i
    · by_cases e : i = id.toNat
      · simp only [e, upd_same]; exact Nat.le_refl _
      · simp only [upd_other _ _ e]; have := h.set i; omega
    · by_cases e : i = id.toNat <;> by_cases e' : j = id.toNat
      · intro _ _; omega
      · simp only [e, upd_same, upd_other _ _ e']; have := h.set j; intro _ _; omega
      · simp only [e', upd_same, upd_other _ _ e]; have := h.set i; intro _ _; omega
      · simp only [upd_other _ _ e, upd_other _ _ e']; exact h.one i j
  · exact h.more (by omega)
theorem clear_ok {K : Nat} {σ : Ws} (h : Ok K σ) (k : Nat) : Ok K ⟨σ.n, σ.s, upd σ.f k ⟨0, 0⟩⟩ := by
  refine ⟨h.n16, h.small, fun i => ?_, fun i => ?_, fun i j => ?_⟩
  · by_cases e : i = k
    · simp only [e, upd_same]; exact Nat.zero_le _
    · simp only [upd_other _ _ e]; exact h.due i
  · by_cases e : i = k
    · simp only [e, upd_same]; exact Nat.zero_le _
    · simp only [upd_other _ _ e]; exact h.set i
  · by_cases e : i = k
    · simp only [e, upd_same]; intro h; omega
    · by_cases e' : j = k
      · simp only [e', upd_same, upd_other _ _ e]; intro _ _; omega
      · simp only [upd_other _ _ e, upd_other _ _ e']; exact h.one i j
theorem stopOf_ok {K : Nat} {σ : Ws} (h : Ok K σ) (id : Int) : Ok K (stopOf σ id) := by
  unfold stopOf
  split
  · exact clear_ok h _
  · exact h

end Go.Proofs.Ytnciefdhgokffaa
