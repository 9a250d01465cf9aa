/-
  Both tasks at each round of the law SchedPlays; what each call makes of both.
-/
import Derived.Test.YtngaecfainhjcaaQNew
namespace Go.Proofs.Ytngaecfainhjcaa
open Go.RowKit A

/-- The program's tasks, and the document's, which may be a step behind. -/
def PlA (w : World) (S B P Q R b2 K : Nat) (s : Sc) (l : List Nat) (a : Ar) (W : World) : Prop :=
  ∃ r v v1 v2 v3 u, Sim a r ∧ r.back.length ≤ K ∧ PQ W S B P w.heap.size v Q R b2 v1 v2 v3 u s r l ∧ Below w.heap.size w W

variable {w : World} {S B P Q R b2 K : Nat} {s s' : Sc} {l l' : List Nat} {a a' : Ar}
theorem PlA.below {W W' : World} (h : PlA w S B P Q R b2 K s l a W) (k : Below W.heap.size W W') : PlA w S B P Q R b2 K s l a W' := by
  obtain ⟨r, v, v1, v2, v3, u, h1, h2, h3, h4⟩ := h
  exact ⟨r, v, v1, v2, v3, u, h1, h2, h3.below k, below_next h4 k⟩
theorem plS {f : Nat} {args : Array Value} {ret : Value} (hl : w.heap.size ≤ S ∧ w.heap.size ≤ B ∧ w.heap.size ≤ P)
    (hc : ∀ v W, AtS W S B P w.heap.size v s → w.heap.size ≤ W.heap.size → Calls Try.prog f args W fun e w' => e = .returned ret ∧ NowS S B P w.heap.size v s' W w') :
    ∀ W, PlA w S B P Q R b2 K s l a W → Calls Try.prog f args W fun e w' => e = .returned ret ∧ PlA w S B P Q R b2 K s' l a w' := fun W h => by
  obtain ⟨r, v, v1, v2, v3, u, h1, h2, h3, h4⟩ := h
  refine (hc v W h3.s h4.size).mono ?_
  rintro e w' ⟨he, hN⟩
  obtain ⟨_, hb⟩ := hN.step h3.s hl h4
  obtain ⟨v', hP⟩ := h3.nowS hN
  exact ⟨he, r, v', v1, v2, v3, u, h1, h2, hP, hb⟩
theorem plQ {f : Nat} {args : Array Value} {ret : Value} {K' : Nat} (hl : w.heap.size ≤ b2 ∧ b2 ≤ Q ∧ b2 ≤ R)
    (hc : ∀ r v1 v2 v3 u W, Sim a r → r.back.length ≤ K → AtQ W Q R b2 v1 v2 v3 u r l → b2 ≤ W.heap.size → Calls Try.prog f args W fun e w' => e = .returned ret ∧ ∃ r', Sim a' r' ∧ r'.back.length ≤ K' ∧ NowQ Q R b2 v1 v2 v3 u r' l' W w') :
    ∀ W, PlA w S B P Q R b2 K s l a W → Calls Try.prog f args W fun e w' => e = .returned ret ∧ PlA w S B P Q R b2 K' s l' a' w' := fun W h => by
  obtain ⟨r, v, v1, v2, v3, u, h1, h2, h3, h4⟩ := h
  have hq := h3.q.ltQ
  refine (hc r v1 v2 v3 u W h1 h2 h3.q (by omega)).mono ?_
  rintro e w' ⟨he, r', k1, k2, hN⟩
  have hb := hN.low h3.q hl.2.1 hl.2.2 hl.1 h4.size
  obtain ⟨v3', u', hP⟩ := h3.nowQ hN
  exact ⟨he, r', v, v1, v2, v3', u', k1, k2, hP, h4.trans hb⟩
theorem PlA.mono {W : World} {K' : Nat} (h : PlA w S B P Q R b2 K s l a W) (hk : K ≤ K') : PlA w S B P Q R b2 K' s l a W := by
  obtain ⟨r, v, v1, v2, v3, u, h1, h2, h3, h4⟩ := h
  exact ⟨r, v, v1, v2, v3, u, h1, by omega, h3, h4⟩

/-- Two rows that hold the same, with all that lies there kept. -/
theorem ints_on {W0 : World} {L : List Nat} (hL : L.length ≤ 1000) : ∀ W a1 c1 a2 c2 (b1 b2 : Nat), W.ownsRow b1 3 1 (.slice a1 L.length c1) L.length (cI L) → W.ownsRow b2 3 1 (.slice a2 L.length c2) L.length (cI L) → Below W0.heap.size W0 W →
    Calls Try.prog 24 #[.slice a1 L.length c1, .slice a2 L.length c2] W fun e w' => e = .returned (.bool true) ∧ Below W0.heap.size W0 w' := fun W a1 c1 a2 c2 b1 b2 h1 h2 hb => by
  refine (same_rows a1 a2 c1 c2 b1 b2 L W hL h1 h2).mono ?_
  rintro e w' ⟨he, hb'⟩
  exact ⟨he, below_next hb hb'⟩
/-- A call that hands out a row, with all that lies there kept. -/
theorem row_on {W0 : World} {f : Nat} {args : Array Value} {L : List Nat} (hc : ∀ W, Below W0.heap.size W0 W → Calls Try.prog f args W fun e w' => Owned L W e w') :
    ∀ W, Below W0.heap.size W0 W → Calls Try.prog f args W fun e w' => ∃ a c, e = .returned (.slice a L.length c) ∧ w'.ownsRow W0.heap.size 3 1 (.slice a L.length c) L.length (cI L) ∧ Below W0.heap.size W0 w' := fun W hW => by
  refine (hc W hW).mono ?_
  rintro e w' ⟨u, rfl, ho, hb⟩
  obtain ⟨a, c, rfl⟩ := owns_slice ho
  exact ⟨a, c, rfl, owns_base ho hW.size, below_next hW hb⟩

end Go.Proofs.Ytngaecfainhjcaa
