/-
  Timers that were set one by one, time going by: which are due at which step, plainly.
-/
import Derived.Test.YtnciefdhgokffaaOrdLaw
namespace Go.Proofs.Ytnciefdhgokffaa
open Go.RowKit

/-- How late it is after so many steps. -/
def nw (D : Nat → Nat) : Nat → Nat
  | 0 => 0
  | k + 1 => nw D k + D k
theorem nw_le (D : Nat → Nat) (hD : ∀ i, D i ≤ 39) : ∀ k, nw D k ≤ 39 * k
  | 0 => by simp [nw]
  | k + 1 => by have := nw_le D hD k; have := hD k; simp only [nw]; omega
/-- Timers after so many steps. -/
def sk (Y : Nat → Nat) (L : Nat) (D : Nat → Nat) : Nat → Ws
  | 0 => seto Y L
  | k + 1 => dueOf (sk Y L D k) ((nw D (k + 1) : Nat) : Int)
/-- Was it due in the first steps? -/
abbrev was (Y : Nat → Nat) (L : Nat) (D : Nat → Nat) (k i : Nat) : Prop := 0 < k ∧ i < L ∧ Y i ≤ nw D k
theorem sk_is (Y : Nat → Nat) (hY : ∀ i, Y i ≤ 1000) (L : Nat) (hL : L ≤ 16) (D : Nat → Nat) (hD : ∀ i, D i ≤ 39) : ∀ k, k ≤ 20 + 20 → (sk Y L D k).n = 16 ∧ ∀ i, (sk Y L D k).f i = if was Y L D k i then ⟨0, 0⟩ else if i < L then ⟨Y i, i + 1⟩ else ⟨0, 0⟩
  | 0, _ => by
    obtain ⟨h1, _, h3, _⟩ := seto_is Y hY L hL
    exact ⟨h1, fun i => (h3 i).trans (if_neg (fun h => by have := h.1; omega)).symm⟩
  | k + 1, hk => by
    obtain ⟨h1, h2⟩ := sk_is Y hY L hL D hD k (by omega)
    refine ⟨h1, fun i => ?_⟩
    have hnw := nw_le D hD (k + 1)
    have hh : holdN ((nw D (k + 1) : Nat) : Int) = nw D (k + 1) := by
      have : hold ((nw D (k + 1) : Nat) : Int) = nw D (k + 1) := hold_id (by omega) (by omega)
      unfold holdN; rw [this]; omega
    show (if i < (sk Y L D k).n ∧ isDue (sk Y L D k) (holdN ((nw D (k + 1) : Nat) : Int)) i then _ else _) = _
    rw [hh, h1]
    have hm : nw D (k + 1) = nw D k + D k := rfl
    by_cases c : was Y L D (k + 1) i
    · rw [if_pos c]
      by_cases d : i < 16 ∧ isDue (sk Y L D k) (nw D (k + 1)) i
      · rw [if_pos d]
      · rw [if_neg d, h2 i]
        by_cases e : was Y L D k i
        · rw [if_pos e]
        · exfalso
          refine d ⟨by have := c.2.1; omega, ?_⟩
          rw [isDue, h2 i, if_neg e, if_pos c.2.1]
          exact ⟨Nat.succ_pos _, c.2.2⟩
    · rw [if_neg c]
      have c0 : ¬ was Y L D k i := fun h => c ⟨by omega, h.2.1, by have := h.2.2; omega⟩
      have d : ¬ (i < 16 ∧ isDue (sk Y L D k) (nw D (k + 1)) i) := fun d => by
        have d2 := d.2
        rw [isDue, h2 i, if_neg c0] at d2
        by_cases e : i < L
        · rw [if_pos e] at d2; exact c ⟨by omega, e, d2.2⟩
        · rw [if_neg e] at d2; exact absurd d2.1 (by simp)
      rw [if_neg d, h2 i, if_neg c0]
theorem sk_due (Y : Nat → Nat) (hY : ∀ i, Y i ≤ 1000) (L : Nat) (hL : L ≤ 16) (D : Nat → Nat) (hD : ∀ i, D i ≤ 39) (k : Nat) (hk : k < 40) {l : List Nat} (h : DueIs (sk Y L D k) ((nw D (k + 1) : Nat) : Int) l) :
    (∀ i, i ∈ l ↔ was Y L D (k + 1) i ∧ ¬ was Y L D k i) ∧ l.Nodup := by
  obtain ⟨h1, h2⟩ := sk_is Y hY L hL D hD k (by omega)
  have hnw := nw_le D hD (k + 1)
  have hh : holdN ((nw D (k + 1) : Nat) : Int) = nw D (k + 1) := by
    have : hold ((nw D (k + 1) : Nat) : Int) = nw D (k + 1) := hold_id (by omega) (by omega)
    unfold holdN; rw [this]; omega
  refine ⟨fun i => ?_, h.1.nodup_iff.2 (dueTo_nodup _ _ _)⟩
  rw [h.1.mem_iff, dueTo_mem, hh, h1, isDue, h2 i]
  by_cases e : was Y L D k i
  · rw [if_pos e]
    exact ⟨fun c => absurd c.2.1 (by simp), fun c => absurd e c.2⟩
  · rw [if_neg e]
    by_cases f : i < L
    · rw [if_pos f]
      exact ⟨fun c => ⟨⟨by omega, f, c.2.2⟩, e⟩, fun c => ⟨by omega, Nat.succ_pos _, c.1.2.2⟩⟩
    · rw [if_neg f]
      exact ⟨fun c => absurd c.2.1 (by simp), fun c => absurd c.1.2.1 f⟩
theorem sk_ok (Y : Nat → Nat) (L : Nat) (hL : L ≤ 16) (D : Nat → Nat) : ∀ k, (∀ j, j < k → ∃ l, DueIs (sk Y L D j) ((nw D (j + 1) : Nat) : Int) l) → Ok 16 (sk Y L D k)
  | 0, _ => (seto_ok Y L).more hL
  | k + 1, h => by
    obtain ⟨l, hl⟩ := h k (by omega)
    exact dueOf_ok (sk_ok Y L hL D k (fun j hj => h j (by omega))) _ hl

/-- How often each was met: in the first k steps, and among the first j of the next. -/
def mt (Y : Nat → Nat) (L : Nat) (D : Nat → Nat) (k : Nat) (l : List Nat) (j : Nat) : Nat → Nat := fun i => if was Y L D k i ∨ i ∈ l.take j then 1 else 0
theorem mt_next {Y : Nat → Nat} {L : Nat} {D : Nat → Nat} {k : Nat} {l : List Nat} (h : ∀ i, i ∈ l ↔ was Y L D (k + 1) i ∧ ¬ was Y L D k i) (hm : nw D k ≤ nw D (k + 1)) (l' : List Nat) : mt Y L D k l l.length = mt Y L D (k + 1) l' 0 := by
  funext i
  unfold mt
  rw [List.take_length]
  simp only [List.take_zero, List.not_mem_nil, or_false]
  by_cases c : was Y L D (k + 1) i
  · rw [if_pos c]
    by_cases d : was Y L D k i
    · rw [if_pos (Or.inl d)]
    · rw [if_pos (Or.inr ((h i).2 ⟨c, d⟩))]
  · rw [if_neg c, if_neg]
    rintro (d | d)
    · exact c ⟨by omega, d.2.1, Nat.le_trans d.2.2 hm⟩
    · exact c ((h i).1 d).1
theorem mt_step {Y : Nat → Nat} {L : Nat} {D : Nat → Nat} {k : Nat} {l : List Nat} (h : ∀ i, i ∈ l ↔ was Y L D (k + 1) i ∧ ¬ was Y L D k i) (hd : l.Nodup) {j : Nat} (hj : j < l.length) :
    mt Y L D k l j (l.getD j 0) = 0 ∧ mt Y L D k l (j + 1) = fun i => if i = l.getD j 0 then 1 else mt Y L D k l j i := by
  have hg : l.getD j 0 = l[j] := by rw [List.getD_eq_getElem?_getD, List.getElem?_eq_getElem hj]; rfl
  have hmem : l[j] ∈ l := List.getElem_mem hj
  have hnot : l[j] ∉ l.take j := fun hc => by
    obtain ⟨m, hm, he⟩ := List.getElem_of_mem hc
    rw [List.getElem_take] at he
    simp only [List.length_take] at hm
    exact (List.pairwise_iff_getElem.1 hd) m j (by omega) hj (by omega) he
  rw [hg]
  refine ⟨?_, ?_⟩
  · unfold mt
    rw [if_neg]
    rintro (c | c)
    · exact ((h _).1 hmem).2 c
    · exact hnot c
  · have ht : ∀ i, i ∈ l.take (j + 1) ↔ i ∈ l.take j ∨ i = l[j] := fun i => by rw [List.take_add_one, List.getElem?_eq_getElem hj, Option.toList_some, List.mem_append, List.mem_singleton]
    funext i
    by_cases e : i = l[j]
    · rw [if_pos e]
      exact if_pos (Or.inr ((ht i).2 (Or.inr e)))
    · rw [if_neg e]
      by_cases c : was Y L D k i ∨ i ∈ l.take j
      · rw [show mt Y L D k l j i = 1 from if_pos c]
        exact if_pos (c.imp id (fun h => (ht i).2 (Or.inl h)))
      · rw [show mt Y L D k l j i = 0 from if_neg c]
        refine if_neg ?_
        rintro (d | d)
        · exact c (Or.inl d)
        · rcases (ht i).1 d with d | d
          · exact c (Or.inr d)
          · exact e d

end Go.Proofs.Ytnciefdhgokffaa
