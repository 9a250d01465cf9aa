/-
  A row that is sorted piece by piece: plain facts.
-/
import Derived.Test.YtnciefdhgokffaaSplit
namespace Go.Proofs.Ytnciefdhgokffaa
open Go.RowKit

theorem Sw.inj {lo hi n : Nat} {x y : Nat → Nat} (h : Sw lo hi x y) (hn : hi ≤ n) (K : Nat → Nat) (hi' : ∀ p q, p < n → q < n → K (x p) = K (x q) → p = q) : ∀ p q, p < n → q < n → K (y p) = K (y q) → p = q := by
  refine Sw.ind (P := fun z => ∀ p q, p < n → q < n → K (z p) = K (z q) → p = q) hi' (fun z i j a b c d ih => ?_) h
  intro p q hp hq e
  by_cases p1 : p = i
  · subst p1
    rw [swp_l] at e
    by_cases q1 : q = p
    · exact q1.symm
    · by_cases q2 : q = j
      · subst q2; rw [swp_r] at e; exact (ih _ _ (by omega) (by omega) e).symm
      · rw [swp_o _ q1 q2] at e; exact absurd (ih _ _ (by omega) hq e).symm q2
  · by_cases p2 : p = j
    · subst p2
      rw [swp_r] at e
      by_cases q1 : q = i
      · subst q1; rw [swp_l] at e; exact (ih _ _ (by omega) (by omega) e).symm
      · by_cases q2 : q = p
        · exact q2.symm
        · rw [swp_o _ q1 q2] at e; exact absurd (ih _ _ (by omega) hq e).symm q1
    · rw [swp_o _ p1 p2] at e
      by_cases q1 : q = i
      · subst q1; rw [swp_l] at e; exact absurd (ih _ _ hp (by omega) e) p2
      · by_cases q2 : q = j
        · subst q2; rw [swp_r] at e; exact absurd (ih _ _ hp (by omega) e) p1
        · rw [swp_o _ q1 q2] at e; exact ih _ _ hp hq e

/-- All but what lies from lo to hi is in its place, and no two are alike. -/
structure Pd (w0 : World) (g c n B : Nat) (σ : Ws) (x : Nat → Nat) (lo hi : Nat) (y : Nat → Nat) (W : World) : Prop where
  a : lo ≤ hi
  b : hi ≤ n
  sw : Sw 0 n x y
  low : ∀ p q, p < lo → p < q → q < n → key σ (y p) < key σ (y q)
  high : ∀ p q, hi ≤ q → p < q → q < n → key σ (y p) < key σ (y q)
  one : ∀ p q, p < n → q < n → key σ (y p) = key σ (y q) → p = q
  srt : Srt w0 g c n B σ y W
theorem Pd.to {w0 : World} {g c n B : Nat} {σ : Ws} {x : Nat → Nat} {lo hi : Nat} {y : Nat → Nat} {W W' : World} (h : Pd w0 g c n B σ x lo hi y W) (k : Srt w0 g c n B σ y W') : Pd w0 g c n B σ x lo hi y W' := ⟨h.a, h.b, h.sw, h.low, h.high, h.one, k⟩
theorem Pd.swap {w0 : World} {g c n B : Nat} {σ : Ws} {x : Nat → Nat} {lo hi : Nat} {y z : Nat → Nat} {W W' : World} (h : Pd w0 g c n B σ x lo hi y W) (s : Sw lo hi y z) (k : Srt w0 g c n B σ z W') : Pd w0 g c n B σ x lo hi z W' := by
  refine ⟨h.a, h.b, h.sw.trans (s.mono (Nat.zero_le _) h.b), fun p q p1 p2 p3 => ?_, fun p q p1 p2 p3 => ?_, s.inj h.b (key σ) h.one, k⟩
  · rw [s.out (k := p) (Or.inl p1)]
    by_cases q1 : q < lo
    · rw [s.out (k := q) (Or.inl q1)]; exact h.low p q p1 p2 p3
    · by_cases q2 : q < hi
      · exact s.all (fun v => key σ (y p) < key σ v) (fun m m1 m2 => h.low p m p1 (by omega) (by have := h.b; omega)) q (by omega) q2
      · rw [s.out (k := q) (Or.inr (by omega))]; exact h.low p q p1 p2 p3
  · rw [s.out (k := q) (Or.inr p1)]
    by_cases q1 : p < lo
    · rw [s.out (k := p) (Or.inl q1)]; exact h.high p q p1 p2 p3
    · by_cases q2 : p < hi
      · exact s.all (fun v => key σ v < key σ (y q)) (fun m m1 m2 => h.high m q p1 (by omega) p3) p (by omega) q2
      · rw [s.out (k := p) (Or.inr (by omega))]; exact h.high p q p1 p2 p3
theorem Pd.lt {w0 : World} {g c n B : Nat} {σ : Ws} {x : Nat → Nat} {lo hi : Nat} {y : Nat → Nat} {W : World} (h : Pd w0 g c n B σ x lo hi y W) {p q : Nat} (hp : p < n) (hq : q < n) (hne : p ≠ q) (hle : key σ (y p) ≤ key σ (y q)) : key σ (y p) < key σ (y q) := by
  rcases Nat.lt_or_eq_of_le hle with h1 | h1
  · exact h1
  · exact absurd (h.one p q hp hq h1) hne
theorem Pd.last {w0 : World} {g c n B : Nat} {σ : Ws} {x : Nat → Nat} {lo hi : Nat} {y : Nat → Nat} {W : World} (h : Pd w0 g c n B σ x lo hi y W) (s : Sd (key σ) lo hi y) : ∀ p q, p < q → q < n → key σ (y p) < key σ (y q) := by
  intro p q p1 p2
  by_cases a : p < lo
  · exact h.low p q a p1 p2
  · by_cases b : hi ≤ q
    · exact h.high p q b p1 p2
    · exact h.lt (by omega) p2 (by omega) (s p q (by omega) p1 (by omega))
theorem Cut.keep {σ : Ws} {lo hi mid lo' hi' : Nat} {y z : Nat → Nat} (h : Cut σ lo hi mid y) (s : Sw lo' hi' y z) (hs : lo ≤ lo' ∧ hi' ≤ mid ∨ mid < lo' ∧ hi' ≤ hi) : Cut σ lo hi mid z := by
  have hm : z mid = y mid := s.out (by omega)
  refine ⟨h.a, h.b, fun k k1 k2 => ?_, fun k k1 k2 => ?_⟩
  · rw [hm]
    by_cases a : lo' ≤ k ∧ k < hi'
    · exact s.all (fun v => key σ v < key σ (y mid)) (fun m m1 m2 => by
        rcases hs with hs | hs
        · exact h.l m (by omega) (by omega)
        · omega) k a.1 a.2
    · rw [s.out (by omega)]; exact h.l k k1 k2
  · rw [hm]
    by_cases a : lo' ≤ k ∧ k < hi'
    · exact s.all (fun v => key σ (y mid) ≤ key σ v) (fun m m1 m2 => by
        rcases hs with hs | hs
        · omega
        · exact h.r m (by omega) (by omega)) k a.1 a.2
    · rw [s.out (by omega)]; exact h.r k k1 k2
theorem Pd.left {w0 : World} {g c n B : Nat} {σ : Ws} {x : Nat → Nat} {lo hi mid : Nat} {y : Nat → Nat} {W : World} (h : Pd w0 g c n B σ x lo hi y W) (ct : Cut σ lo hi mid y) (s : Sd (key σ) lo mid y) : Pd w0 g c n B σ x (mid + 1) hi y W := by
  have hb := h.b
  have ca := ct.a
  have cb := ct.b
  refine ⟨cb, hb, h.sw, fun p q p1 p2 p3 => ?_, h.high, h.one, h.srt⟩
  by_cases a : p < lo
  · exact h.low p q a p2 p3
  · by_cases b : hi ≤ q
    · exact h.high p q b p2 p3
    · by_cases c : q < mid
      · exact h.lt (by omega) p3 (by omega) (s p q (by omega) p2 c)
      · by_cases d : p = mid
        · subst d; exact h.lt (by omega) p3 (by omega) (ct.r q p2 (by omega))
        · have e := ct.l p (by omega) (by omega)
          by_cases f : q = mid
          · subst f; exact e
          · exact Nat.lt_of_lt_of_le e (ct.r q (by omega) (by omega))
theorem Pd.right {w0 : World} {g c n B : Nat} {σ : Ws} {x : Nat → Nat} {lo hi mid : Nat} {y : Nat → Nat} {W : World} (h : Pd w0 g c n B σ x lo hi y W) (ct : Cut σ lo hi mid y) (s : Sd (key σ) (mid + 1) hi y) : Pd w0 g c n B σ x lo mid y W := by
  have hb := h.b
  have ca := ct.a
  have cb := ct.b
  refine ⟨ca, by omega, h.sw, h.low, fun p q p1 p2 p3 => ?_, h.one, h.srt⟩
  by_cases a : p < lo
  · exact h.low p q a p2 p3
  · by_cases b : hi ≤ q
    · exact h.high p q b p2 p3
    · by_cases c : mid < p
      · exact h.lt (by omega) p3 (by omega) (s p q (by omega) p2 (by omega))
      · by_cases d : p = mid
        · subst d; exact h.lt (by omega) p3 (by omega) (ct.r q p2 (by omega))
        · have e := ct.l p (by omega) (by omega)
          by_cases f : q = mid
          · subst f; exact e
          · exact Nat.lt_of_lt_of_le e (ct.r q (by omega) (by omega))

end Go.Proofs.Ytnciefdhgokffaa
