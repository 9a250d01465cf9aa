/-
  Rows that are kept beside the tasks; two rows that hold the same.
-/
import Derived.Test.YtngaecfainhjcaaSYield
namespace Go.Proofs.Ytngaecfainhjcaa
open Go.RowKit A

set_option maxHeartbeats 1000000 in
/-- Two rows that hold the same. -/
theorem same_rows (a1 a2 : Option Addr) (c1 c2 : Nat) (b1 b2 : Nat) (l : List Nat) (w : World) (hl : l.length ≤ 1000) (h1 : w.ownsRow b1 3 1 (.slice a1 l.length c1) l.length (cI l)) (h2 : w.ownsRow b2 3 1 (.slice a2 l.length c2) l.length (cI l)) :
    Calls Try.prog 24 #[.slice a1 l.length c1, .slice a2 l.length c2] w fun e w' => e = .returned (.bool true) ∧ Below w.heap.size w w' := by
  have H1 := hide h1
  have H2 := hide h2
  clear h1 h2
  go_enter Try.func24, Try.ntmps24
  go_wp2
  go_loopw [5] (fun i wr => ∃ k : Nat, k ≤ l.length ∧ i = .int .i64 k ∧ Below w.heap.size w wr) (fun i _ => l.length - (intOf i).toNat)
  case atStart => exact ⟨0, Nat.zero_le _, rfl, Below.refl _ _⟩
  case round =>
    obtain ⟨k, hk, rfl, hnx⟩ := hrel
    by_cases hlt : k < l.length
    · obtain ⟨g1, d1, hv1, _, _, e1, _⟩ := row_open (owns_below H1.out hnx) (by omega)
      obtain ⟨g2, d2, hv2, _, _, e2, _⟩ := row_open (owns_below H2.out hnx) (by omega)
      simp only [Value.slice.injEq, true_and] at hv1 hv2
      obtain ⟨rfl, rfl⟩ := hv1
      obtain ⟨rfl, rfl⟩ := hv2
      obtain ⟨q1, _⟩ := e1 k hlt
      obtain ⟨q2, _⟩ := e2 k hlt
      have b1 : (k : Int) < (l.length : Int) := by omega
      have b0 : (0 : Int) ≤ (k : Int) := by omega
      clear e1 e2
      generalize gs_ l k = X at *
      go_wp2_with fail
      go_quiet (fail)
      go_wp2
      go_roundw
      case rel => exact ⟨k + 1, by omega, by go_num, hnx.trans ((A.below_drewN _ _).mono hnx.size)⟩
      case measure => simp [intOf]; omega
    · go_wp2
      go_ret
      exact ⟨rfl, hnx⟩

/-- The tasks, and a row beside them. -/
structure Sd (w : World) (S B P base : Nat) (v : Value) (s : Sc) (r : Value) (l : List Nat) : Prop where
  s : AtS w S B P base v s
  ro : w.ownsRow base 3 1 r l.length (cI l)
  d : ∀ j, r.ownBlock = some j → ¬ MineS S B P v j
theorem Sd.below {w w' : World} {S B P base : Nat} {v r : Value} {s : Sc} {l : List Nat} (h : Sd w S B P base v s r l) (k : Below w.heap.size w w') : Sd w' S B P base v s r l := ⟨h.s.below k, owns_below h.ro k, h.d⟩
theorem Sd.now {w w' : World} {S B P base : Nat} {v r : Value} {s t : Sc} {l : List Nat} (h : Sd w S B P base v s r l) (k : NowS S B P base v t w w') : ∃ v', Sd w' S B P base v' t r l := by
  obtain ⟨v', k1, k2, k3⟩ := k
  refine ⟨v', k1, owns_far h.ro fun j hj => k2.block j (h.ro.lt j hj).2 (h.d j hj), fun j hj hm => ?_⟩
  rcases hm with e | e | e | e
  · exact h.d j hj (Or.inl e)
  · exact h.d j hj (Or.inr (Or.inl e))
  · exact h.d j hj (Or.inr (Or.inr (Or.inl e)))
  · rcases k3 j e with q | q
    · have := (h.ro.lt j hj).2; omega
    · exact h.d j hj (Or.inr (Or.inr (Or.inr q)))
theorem owns_base {w : World} {b c e n k : Nat} {v : Value} {xs : List Value} (h : w.ownsRow b e n v k xs) (hc : c ≤ b) : w.ownsRow c e n v k xs := by
  refine ⟨h.1, ?_⟩
  rcases h.2 with h3 | ⟨g, cap, cur, r1, hb, rest⟩
  · exact Or.inl h3
  · exact Or.inr ⟨g, cap, cur, r1, Nat.le_trans hc hb, rest⟩
/-- A row that is new. -/
theorem AtS.beside {w w' : World} {S B P base : Nat} {v r : Value} {s : Sc} {l : List Nat} (h : AtS w S B P base v s) (ho : w'.ownsRow w.heap.size 3 1 r l.length (cI l)) (hb : Below w.heap.size w w') (hz : base ≤ w.heap.size) : Sd w' S B P base v s r l :=
  ⟨h.below hb, owns_base ho hz, fun j hj hm => by have := h.mine_lt hm; have := (ho.lt j hj).1; omega⟩
/-- On with the tasks, and with what lay there ahead of them. -/
theorem NowS.step {w w1 w2 : World} {S B P : Nat} {v : Value} {s t : Sc} (h : NowS S B P w.heap.size v t w1 w2) (ha : AtS w1 S B P w.heap.size v s) (hl : w.heap.size ≤ S ∧ w.heap.size ≤ B ∧ w.heap.size ≤ P) (hb : Below w.heap.size w w1) :
    (∃ v', AtS w2 S B P w.heap.size v' t) ∧ Below w.heap.size w w2 := by
  have hlow := h.low ha hl.1 hl.2.1 hl.2.2 (Nat.le_refl _) hb.size
  obtain ⟨v', k1, _⟩ := h
  exact ⟨⟨v', k1⟩, hb.trans hlow⟩

end Go.Proofs.Ytngaecfainhjcaa
