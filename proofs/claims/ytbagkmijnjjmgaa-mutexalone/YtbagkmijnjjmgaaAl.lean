/-
  The program's beside a row of the law's own: what each call, and each append, leaves of both.
-/
import Derived.Test.YtbagkmijnjjmgaaOwn
import Derived.Test.YtbagkmijnjjmgaaUp
namespace Go.Proofs.Ytbagkmijnjjmgaa
open Go.RowKit

structure AlS (w : World) (M base : Nat) (v : Value) (l1 l2 : List Int) (a : Option Addr) (c : Nat) : Prop where
  m : AtM w M base v l1
  o : OwnO w base a c l2
  d : ∀ j, Mine M v j → ¬ Its a c j
def Al (W0 : World) (M : Nat) (l1 l2 : List Int) (a : Option Addr) (c : Nat) (w : World) : Prop := W0.heap.size ≤ M ∧ (∃ v, AlS w M W0.heap.size v l1 l2 a c) ∧ Below W0.heap.size W0 w

variable {W0 w w' : World} {M c : Nat} {l l1 l2 l3 : List Int} {a : Option Addr}
theorem Al.below (h : Al W0 M l1 l2 a c w) (k : Below w.heap.size w w') : Al W0 M l1 l2 a c w' := by
  obtain ⟨h1, ⟨v, h2⟩, h3⟩ := h
  exact ⟨h1, ⟨v, h2.m.below k, h2.o.below k, h2.d⟩, below_next h3 k⟩
theorem Al.setM (h1 : W0.heap.size ≤ M) {v : Value} (h2 : AlS w M W0.heap.size v l1 l2 a c) (h3 : Below W0.heap.size W0 w) (k : NowM M W0.heap.size v l3 w w') : Al W0 M l3 l2 a c w' := by
  have hlow := k.low h2.m h1 (Nat.le_refl _) h3.size
  obtain ⟨v', k1, k2, k3⟩ := k
  refine ⟨h1, ⟨v', k1, h2.o.keep fun j hj => k2.block j (h2.o.its_lt hj).1 (fun q => h2.d j q hj), fun j hj hr => ?_⟩, h3.trans hlow⟩
  rcases hj with q | q
  · exact h2.d j (Or.inl q) hr
  · rcases k3 j q with q2 | q2
    · have := (h2.o.its_lt hr).1; omega
    · exact h2.d j (Or.inr q2) hr
theorem Al.setO (h : Al W0 M l1 l2 a c w) {a' : Option Addr} {c' : Nat} (k1 : OwnO w' W0.heap.size a' c' l3) (k2 : Mov (Its a c) w w') (k3 : ∀ j, Its a' c' j → w.heap.size ≤ j ∨ Its a c j) : Al W0 M l1 l3 a' c' w' := by
  obtain ⟨h1, ⟨v, h2⟩, h3⟩ := h
  have hlow : Below W0.heap.size w w' := k2.below h3.size fun k hk => (h2.o.its_lt hk).2
  refine ⟨h1, ⟨v, h2.m.keep fun j hj => k2.block j (h2.m.mine_lt hj) (fun q => h2.d j hj q), k1, fun j hj hr => ?_⟩, h3.trans hlow⟩
  rcases k3 j hr with q | q
  · have := h2.m.mine_lt hj; omega
  · exact h2.d j hj q
theorem Al.own (h : Al W0 M l1 l2 a c w) : OwnO w W0.heap.size a c l2 := by
  obtain ⟨_, ⟨v, h2⟩, _⟩ := h
  exact h2.o
/-- The first one is cut off. -/
theorem Al.tail1 (h : Al W0 M l1 l2 a 1 w) : Al W0 M l1 l2.tail a 0 w := h.setO h.own.tail1 (Mov.refl _ _) fun j hj => absurd hj.1 (by omega)
theorem Al.tail {g off : Nat} (h : Al W0 M l1 l2 (some ⟨g, off, none⟩) c w) (hl : 1 ≤ l2.length) : Al W0 M l1 l2.tail (some ⟨g, off + 1, none⟩) (c - 1) w :=
  h.setO (h.own.tail hl) (Mov.refl _ _) fun j hj => by
    obtain ⟨h0, o, e⟩ := hj
    cases e
    exact Or.inr ⟨by omega, off, rfl⟩
theorem Al.start {w1 : World} (hm : AtM w1 M W0.heap.size (.slice none 0 0) []) (hb : Below W0.heap.size W0 w1) (hM : W0.heap.size ≤ M) : Al W0 M [] [] (some ⟨w1.heap.size, 0, none⟩) 0 (w1.alloc (.cells #[] 3)) :=
  ⟨hM, ⟨_, hm.below (below1 _ _), OwnO.lit w1 _, fun _ _ hr => absurd hr.1 (by omega)⟩, hb.alloc hb.size _⟩

theorem a_try (hO : Okz l) (hl : l.length ≤ 1000) (t : Int) (h : Al W0 M l l2 a c w) : Calls Try.prog 11 #[.pointer (some ⟨M, 0, none⟩), .int .i64 t] w fun e w' => e = .returned (.int .i64 (tryE l t)) ∧ Al W0 M (tryL l t) l2 a c w' := by
  obtain ⟨h1, ⟨v, h2⟩, h3⟩ := h
  exact (try_any M _ v l hO hl t w h2.m).mono fun e w' k => ⟨k.1, Al.setM h1 h2 h3 k.2⟩
theorem a_lock (hO : Okz l) (hl : l.length ≤ 1000) (t : Int) (h : Al W0 M l l2 a c w) : Calls Try.prog 15 #[.pointer (some ⟨M, 0, none⟩), .int .i64 t] w fun e w' => e = .returned (.int .i64 (lockE l t)) ∧ Al W0 M (lockL l t) l2 a c w' := by
  obtain ⟨h1, ⟨v, h2⟩, h3⟩ := h
  exact (lock_any M _ v l hO hl t w h2.m h3.size).mono fun e w' k => ⟨k.1, Al.setM h1 h2 h3 k.2⟩
theorem a_un (hO : Okz l) (hl : l.length ≤ 1000) (t : Int) (h : Al W0 M l l2 a c w) : Calls Try.prog 13 #[.pointer (some ⟨M, 0, none⟩), .int .i64 t] w fun e w' => e = .returned (.tuple #[.int .i64 (unN l t), .int .i64 (unE l t)]) ∧ Al W0 M (unL l t) l2 a c w' := by
  obtain ⟨h1, ⟨v, h2⟩, h3⟩ := h
  exact (unlock_any M _ v l hO hl t w h2.m).mono fun e w' k => ⟨k.1, Al.setM h1 h2 h3 k.2⟩
theorem a_holder (h : Al W0 M l l2 a c w) : Calls Try.prog 16 #[.pointer (some ⟨M, 0, none⟩)] w fun e w' => e = .returned (.int .i64 (hold l)) ∧ w' = w := by
  obtain ⟨h1, ⟨v, h2⟩, h3⟩ := h
  exact holder_any M _ v l w h2.m

/-- Where a number is in a row, as a loop finds it. -/
theorem at_case {l : List Int} (hO : Okz l) {t A : Int} (h1 : 1 ≤ t) (h : (A = -1 ∧ ∀ j, j < l.length → gz l j ≠ t) ∨ ∃ j : Nat, j < l.length ∧ A = (j : Int) ∧ gz l j = t) :
    (A = 0 ∧ l ≠ [] ∧ unN l t = hold l.tail ∧ unE l t = 0 ∧ unL l t = l.tail) ∨ (A = -1 ∧ lockE l t = (if l = [] then 0 else 14) ∧ lockL l t = l ++ [t] ∧ Okz (l ++ [t])) ∨
    (1 ≤ A ∧ l ≠ [] ∧ unE l t = 11 ∧ unL l t = l ∧ lockE l t = 11 ∧ lockL l t = l ∧ tryE l t = 11 ∧ tryL l t = l) := by
  have n1 : ¬ t < 1 := by omega
  rcases h with ⟨rfl, h⟩ | ⟨j, hj, rfl, hg⟩
  · right; left
    have hb : inZ l t = false := inZ_false.2 fun hm => by
      obtain ⟨j, q1, q2, _⟩ := in_at (inZ_true.2 hm)
      exact h j q1 q2
    have hb2 : ¬ inZ l t = true := by rw [hb]; simp
    exact ⟨rfl, (if_neg n1).trans (if_neg hb2), (if_neg n1).trans (if_neg hb2), hO.snoc n1 hb⟩
  · have hn : l ≠ [] := List.length_pos_iff.1 (by omega)
    have hb : inZ l t = true := inZ_true.2 (hg ▸ gz_mem hj)
    by_cases hj0 : j = 0
    · left
      subst hj0
      have hh : has l t := ⟨h1, hn, hg⟩
      exact ⟨rfl, hn, if_pos hh, (if_neg n1).trans (if_pos hh), if_pos hh⟩
    · right; right
      have hh : ¬ has l t := fun q => hj0 (one_at hO.nd hj (List.length_pos_iff.2 hn) (hg.trans q.2.2.symm))
      exact ⟨by omega, hn, (if_neg n1).trans (if_neg hh), if_neg hh, (if_neg n1).trans (if_pos hb), (if_neg n1).trans (if_pos hb), (if_neg n1).trans (if_pos hb), (if_neg n1).trans (if_pos hb)⟩

end Go.Proofs.Ytbagkmijnjjmgaa
