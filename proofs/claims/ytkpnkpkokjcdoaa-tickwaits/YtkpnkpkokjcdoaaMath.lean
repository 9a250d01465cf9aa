/-
  Plain facts on slots: where each slot that counts begins in a cycle, to which slot a tick of a cycle belongs, and which slot of a domain begins next.
-/
import Derived.Test.YtkpnkpkokjcdoaaRows
namespace Go.Proofs.Ytkpnkpkokjcdoaa

/-- Whose the slot at a place is, and how long. -/
def dm (ls : List (Int × Int)) (i : Nat) : Int := (ls.getD i (0, 0)).1
def ln (ls : List (Int × Int)) (i : Nat) : Int := (ls.getD i (0, 0)).2
/-- Does the slot at a place count? -/
def cn (ls : List (Int × Int)) (i : Nat) : Bool := decide (1 ≤ ln ls i) && decide (ln ls i ≤ 16)
/-- How many ticks all slots ahead of a place take. -/
def off (ls : List (Int × Int)) : Nat → Nat
  | 0 => 0
  | k + 1 => off ls k + if cn ls k then (ln ls k).toNat else 0

theorem off_yes {ls : List (Int × Int)} {k : Nat} (h : cn ls k = true) : off ls (k + 1) = off ls k + (ln ls k).toNat := by simp [off, h]
theorem off_no {ls : List (Int × Int)} {k : Nat} (h : cn ls k = false) : off ls (k + 1) = off ls k := by simp [off, h]
theorem cn_iff {ls : List (Int × Int)} {k : Nat} : cn ls k = true ↔ 1 ≤ ln ls k ∧ ln ls k ≤ 16 := by simp [cn]
theorem cn_not {ls : List (Int × Int)} {k : Nat} : cn ls k = false ↔ ln ls k < 1 ∨ 16 < ln ls k := by
  cases h : cn ls k
  · simp only [true_iff]
    have : ¬ (1 ≤ ln ls k ∧ ln ls k ≤ 16) := fun h' => by rw [cn_iff.2 h'] at h; cases h
    omega
  · have := cn_iff.1 h
    simp; omega
theorem off_step (ls : List (Int × Int)) (k : Nat) : off ls k ≤ off ls (k + 1) := by simp only [off]; omega
theorem off_mono (ls : List (Int × Int)) {j k : Nat} (h : j ≤ k) : off ls j ≤ off ls k := by
  induction k with
  | zero => obtain rfl : j = 0 := by omega
            exact Nat.le_refl _
  | succ k ih =>
    rcases Nat.eq_or_lt_of_le h with rfl | h'
    · exact Nat.le_refl _
    · exact Nat.le_trans (ih (by omega)) (off_step ls k)
theorem off_le (ls : List (Int × Int)) (k : Nat) : off ls k ≤ 16 * k := by
  induction k with
  | zero => simp [off]
  | succ k ih =>
    cases h : cn ls k
    · rw [off_no h]; omega
    · rw [off_yes h]; have := cn_iff.1 h; omega

/-- The slot at place k has the tick r of a cycle. -/
def Has (ls : List (Int × Int)) (r k : Nat) : Prop := off ls k ≤ r ∧ r < off ls (k + 1)

theorem Has.cn {ls : List (Int × Int)} {r k : Nat} (h : Has ls r k) : cn ls k = true := by
  cases h' : Ytkpnkpkokjcdoaa.cn ls k
  · have := h.1; have := h.2; rw [off_no h'] at this; omega
  · rfl
theorem has_start {ls : List (Int × Int)} {k : Nat} (h : cn ls k = true) : Has ls (off ls k) k := by
  refine ⟨Nat.le_refl _, ?_⟩
  rw [off_yes h]; have := cn_iff.1 h; omega
theorem Has.one {ls : List (Int × Int)} {r j k : Nat} (h : Has ls r j) (h' : Has ls r k) : j = k := by
  rcases Nat.lt_trichotomy j k with c | c | c
  · have := off_mono ls (show j + 1 ≤ k by omega); have := h.2; have := h'.1; omega
  · exact c
  · have := off_mono ls (show k + 1 ≤ j by omega); have := h'.2; have := h.1; omega
theorem has_some (ls : List (Int × Int)) (r : Nat) : ∀ n, r < off ls n → ∃ k, k < n ∧ Has ls r k
  | 0, h => by simp [off] at h
  | n + 1, h => by
    by_cases c : off ls n ≤ r
    · exact ⟨n, by omega, c, h⟩
    · obtain ⟨k, hk, h'⟩ := has_some ls r n (by omega)
      exact ⟨k, by omega, h'⟩
theorem Has.lt {ls : List (Int × Int)} {r k n : Nat} (h : Has ls r k) (hn : off ls n ≤ r → False) : k < n := by
  rcases Nat.lt_or_ge k n with c | c
  · exact c
  · exact (hn (Nat.le_trans (off_mono ls c) h.1)).elim

/-- A number as a tick. -/
def hold (t : Int) : Int := if t < 0 then 0 else if 4611686018427387904 < t then 4611686018427387904 else t
theorem hold_ge (t : Int) : 0 ≤ hold t := by unfold hold; split <;> (try split) <;> omega
theorem hold_le (t : Int) : hold t ≤ 4611686018427387904 := by unfold hold; split <;> (try split) <;> omega
theorem hold_same {t : Int} (h : 0 ≤ t) (h' : t ≤ 4611686018427387904) : hold t = t := by unfold hold; split <;> (try split) <;> omega

/-- The place of the slot that has the tick t, and the tick at which it began there; of n slots. -/
def AtIs (ls : List (Int × Int)) (t a x : Int) : Prop :=
  (off ls ls.length = 0 ∧ a = -1 ∧ x = 0) ∨
  (0 < off ls ls.length ∧ ∃ k r : Nat, k < ls.length ∧ Has ls r k ∧ (r : Int) = hold t % (off ls ls.length : Int) ∧ a = (k : Int) ∧ x = hold t - (r : Int) + (off ls k : Int))

theorem AtIs.one {ls : List (Int × Int)} {t a x b y : Int} (h : AtIs ls t a x) (h' : AtIs ls t b y) : a = b ∧ x = y := by
  rcases h with ⟨h0, rfl, rfl⟩ | ⟨h0, k, r, hk, hh, hr, rfl, rfl⟩
  · rcases h' with ⟨_, rfl, rfl⟩ | ⟨h1, _⟩
    · exact ⟨rfl, rfl⟩
    · omega
  · rcases h' with ⟨h1, _⟩ | ⟨h1, k', r', hk', hh', hr', rfl, rfl⟩
    · omega
    · obtain rfl : r = r' := by omega
      obtain rfl := hh.one hh'
      exact ⟨rfl, rfl⟩

/-- A slot of a domain begins at a tick. -/
def Begins (ls : List (Int × Int)) (dom T : Int) : Prop := ∃ k : Nat, k < ls.length ∧ cn ls k = true ∧ dm ls k = dom ∧ T % (off ls ls.length : Int) = (off ls k : Int)

/-- The first tick from t on at which a slot of a domain begins, if there is one. -/
def NextIs (ls : List (Int × Int)) (dom t n : Int) (ok : Bool) : Prop :=
  (ok = true ∧ hold t ≤ n ∧ n ≤ 4611686018427387904 ∧ Begins ls dom n ∧ ∀ T, hold t ≤ T → T < n → ¬ Begins ls dom T) ∨
  (ok = false ∧ n = 0 ∧ ∀ T, hold t ≤ T → T ≤ 4611686018427387904 → ¬ Begins ls dom T)

theorem NextIs.one {ls : List (Int × Int)} {dom t n m : Int} {a b : Bool} (h : NextIs ls dom t n a) (h' : NextIs ls dom t m b) : n = m ∧ a = b := by
  rcases h with ⟨rfl, h1, h2, h3, h4⟩ | ⟨rfl, rfl, h1⟩
  · rcases h' with ⟨rfl, k1, k2, k3, k4⟩ | ⟨rfl, rfl, k1⟩
    · refine ⟨?_, rfl⟩
      rcases Int.lt_trichotomy n m with c | c | c
      · exact (k4 n h1 c h3).elim
      · exact c
      · exact (h4 m k1 c k3).elim
    · exact (k1 n h1 h2 h3).elim
  · rcases h' with ⟨rfl, k1, k2, k3, k4⟩ | ⟨rfl, rfl, k1⟩
    · exact (h1 m k1 k2 k3).elim
    · exact ⟨rfl, rfl⟩

theorem off_pos {ls : List (Int × Int)} {k n : Nat} (hk : k < n) (h : cn ls k = true) : off ls k < off ls n := by
  have h1 := (has_start h).2
  have := off_mono ls (show k + 1 ≤ n by omega)
  omega

end Go.Proofs.Ytkpnkpkokjcdoaa
