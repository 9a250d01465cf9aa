/-
  What wheel's Next comes to; two rows that hold the same; what is due is one list.
-/
import Derived.Test.YtnciefdhgokffaaDueW
namespace Go.Proofs.Ytnciefdhgokffaa
open Go.RowKit

/-- The least tick of the first timers, and whether one is set. -/
def nx (σ : Ws) : Nat → Nat × Bool
  | 0 => (0, false)
  | k + 1 => if 0 < (σ.f k).set ∧ ((nx σ k).2 = false ∨ (σ.f k).due < (nx σ k).1) then ((σ.f k).due, true) else nx σ k
theorem nx_yes {σ : Ws} {k : Nat} (h : 0 < (σ.f k).set ∧ ((nx σ k).2 = false ∨ (σ.f k).due < (nx σ k).1)) : nx σ (k + 1) = ((σ.f k).due, true) := by simp only [nx]; rw [if_pos h]
theorem nx_no {σ : Ws} {k : Nat} (h : ¬ (0 < (σ.f k).set ∧ ((nx σ k).2 = false ∨ (σ.f k).due < (nx σ k).1))) : nx σ (k + 1) = nx σ k := by simp only [nx]; rw [if_neg h]
theorem nx_spec (σ : Ws) (k : Nat) : ((nx σ k).2 = false → (nx σ k).1 = 0 ∧ ∀ i, i < k → (σ.f i).set = 0) ∧ ((nx σ k).2 = true → (∃ i, i < k ∧ 0 < (σ.f i).set ∧ (σ.f i).due = (nx σ k).1) ∧ ∀ i, i < k → 0 < (σ.f i).set → (nx σ k).1 ≤ (σ.f i).due) := by
  induction k with
  | zero => exact ⟨fun _ => ⟨rfl, fun i h => by omega⟩, fun h => by simp [nx] at h⟩
  | succ k ih =>
    by_cases c : 0 < (σ.f k).set ∧ ((nx σ k).2 = false ∨ (σ.f k).due < (nx σ k).1)
    · rw [nx_yes c]
      refine ⟨fun h => by simp at h, fun _ => ⟨⟨k, by omega, c.1, rfl⟩, fun i hi hs => ?_⟩⟩
      by_cases e : i = k
      · subst e; exact Nat.le_refl _
      · show (σ.f k).due ≤ _
        rcases c.2 with c2 | c2
        · have := (ih.1 c2).2 i (by omega); omega
        · cases hb : (nx σ k).2
          · have := (ih.1 hb).2 i (by omega); omega
          · have := (ih.2 hb).2 i (by omega) hs; omega
    · rw [nx_no c]
      refine ⟨fun h => ⟨(ih.1 h).1, fun i hi => ?_⟩, fun h => ⟨?_, fun i hi hs => ?_⟩⟩
      · by_cases e : i = k
        · subst e
          cases hz : (σ.f i).set with
          | zero => rfl
          | succ m => exact absurd ⟨by omega, Or.inl h⟩ c
        · exact (ih.1 h).2 i (by omega)
      · obtain ⟨i, h1, h2, h3⟩ := (ih.2 h).1
        exact ⟨i, by omega, h2, h3⟩
      · by_cases e : i = k
        · subst e
          have : ¬ (σ.f i).due < (nx σ i).1 := fun k => c ⟨hs, Or.inr k⟩
          omega
        · exact (ih.2 h).2 i (by omega) hs

set_option maxHeartbeats 2000000 in
theorem next_is (B : Nat) (σ : Ws) (hn : σ.n ≤ 16) (w : World) (hA : AtW w B σ) :
    Calls Try.prog 19 #[.pointer (some ⟨B, 0, none⟩)] w fun e w' => e = .returned (.tuple #[.int .i64 ((nx σ σ.n).1 : Int), .bool (nx σ σ.n).2]) ∧ w' = w := by
  obtain ⟨c0, c1⟩ := hA.tops
  have HAT := hide (fun k => at_any B σ k hn w hA)
  clear hA c1
  go_enter Try.func19, Try.ntmps19
  go_wp2
  go_loopw [4, 5, 15] (fun v u i wr => ∃ k : Nat, k ≤ σ.n ∧ v = .int .i64 ((nx σ k).1 : Int) ∧ u = .bool (nx σ k).2 ∧ i = .int .i64 k ∧ wr = w) (fun _ _ i _ => σ.n - (intOf i).toNat)
  case atStart => exact ⟨0, Nat.zero_le _, rfl, rfl, rfl, rfl⟩
  case round =>
    obtain ⟨k, hk, rfl, rfl, rfl, hwr⟩ := hrel
    subst hwr
    clear c0
    by_cases hlt : k < σ.n
    · have T := HAT.out (k : Int)
      by_cases hs : 0 < (σ.f k).set
      · have hst : setT σ (k : Int) := ⟨⟨by omega, by omega⟩, by simpa using hs⟩
        have e1 : atX σ (k : Int) = ((σ.f k).due : Int) := by unfold atX; rw [if_pos hst]; simp
        have e2 : stopB σ (k : Int) = true := decide_eq_true hst
        rw [e1, e2] at T
        by_cases hc : (nx σ k).2 = false ∨ (σ.f k).due < (nx σ k).1
        · have HE := hide (nx_yes ⟨hs, hc⟩)
          clear e1 e2 hst hs
          obtain ⟨x, b, hxb⟩ : ∃ x b, nx σ k = (x, b) := ⟨_, _, rfl⟩
          rw [hxb] at hc ⊢
          simp only at hc ⊢
          clear hxb
          cases b
          · clear hc
            generalize (σ.f k).due = D at *
            go_wp2_with (go_at_call 17; refine T.mono ?_; rintro e w3 ⟨rfl, hw3⟩; subst hw3)
            go_roundw
            case rel => exact ⟨k + 1, by omega, by rw [HE.out], by rw [HE.out], by go_num, by simp⟩
            case measure => simp [intOf]; omega
          · have hd : decide ((σ.f k).due < x) = true := by simpa using hc
            clear hc
            generalize (σ.f k).due = D at *
            go_wp2_with (go_at_call 17; refine T.mono ?_; rintro e w3 ⟨rfl, hw3⟩; subst hw3)
            go_roundw
            case rel => exact ⟨k + 1, by omega, by rw [HE.out], by rw [HE.out], by go_num, by simp⟩
            case measure => simp [intOf]; omega
        · have HE := hide (nx_no (σ := σ) (k := k) (fun h => hc h.2))
          clear e1 e2 hst hs
          obtain ⟨x, b, hxb⟩ : ∃ x b, nx σ k = (x, b) := ⟨_, _, rfl⟩
          rw [hxb] at hc ⊢
          have HXB := hide hxb
          simp only at hc ⊢
          clear hxb
          cases b
          · exact absurd (Or.inl rfl) hc
          · have hd : decide ((σ.f k).due < x) = false := by simp; simpa using hc
            clear hc
            generalize (σ.f k).due = D at *
            go_wp2_with (go_at_call 17; refine T.mono ?_; rintro e w3 ⟨rfl, hw3⟩; subst hw3)
            go_roundw
            case rel => exact ⟨k + 1, by omega, by rw [HE.out, HXB.out], by rw [HE.out, HXB.out], by go_num, by simp⟩
            case measure => simp [intOf]; omega
      · have hst : ¬ setT σ (k : Int) := fun h => hs (by simpa using h.2)
        have e1 : atX σ (k : Int) = 0 := by unfold atX; rw [if_neg hst]
        have e2 : stopB σ (k : Int) = false := decide_eq_false hst
        rw [e1, e2] at T
        have HE := hide (nx_no (σ := σ) (k := k) (fun h => hs h.1))
        clear e1 e2 hst hs
        obtain ⟨x, b, hxb⟩ : ∃ x b, nx σ k = (x, b) := ⟨_, _, rfl⟩
        rw [hxb]
        have HXB := hide hxb
        simp only
        clear hxb
        go_wp2_with (go_at_call 17; refine T.mono ?_; rintro e w3 ⟨rfl, hw3⟩; subst hw3)
        go_roundw
        case rel => exact ⟨k + 1, by omega, by rw [HE.out, HXB.out], by rw [HE.out, HXB.out], by go_num, by simp⟩
        case measure => simp [intOf]; omega
    · have hkn : k = σ.n := by omega
      have HK := hide hkn
      clear hkn
      go_wp2
      go_ret2
      exact ⟨by rw [HK.out]; rfl, rfl⟩
set_option maxHeartbeats 1000000 in
theorem next_nil (w : World) : Calls Try.prog 19 #[.pointer none] w fun e w' => e = .returned (.tuple #[.int .i64 0, .bool false]) ∧ w' = w := by
  go_enter Try.func19, Try.ntmps19
  go_wp2
  go_ret2
  exact ⟨rfl, rfl⟩

theorem uniq {K : Nat → Nat} : ∀ {l l' : List Nat}, l.Perm l' → l.Pairwise (fun a b => K a < K b) → l'.Pairwise (fun a b => K a < K b) → l = l'
  | [], l', h, _, _ => (List.Perm.nil_eq h)
  | a :: l, [], h, _, _ => by simpa using h.length_eq
  | a :: l, b :: l', h, h1, h2 => by
    rw [List.pairwise_cons] at h1 h2
    have e : a = b := by
      have ha := h.mem_iff.1 (List.mem_cons_self (a := a) (l := l))
      have hb := h.mem_iff.2 (List.mem_cons_self (a := b) (l := l'))
      rcases List.mem_cons.1 ha with rfl | ha
      · rfl
      · rcases List.mem_cons.1 hb with rfl | hb
        · rfl
        · have := h1.1 b hb; have := h2.1 a ha; omega
    subst e
    rw [uniq (List.Perm.cons_inv h) h1.2 h2.2]
theorem due_unique {σ : Ws} {now : Int} {l l' : List Nat} (h : DueIs σ now l) (h' : DueIs σ now l') : l = l' := uniq (h.1.trans h'.1.symm) h.2 h'.2

theorem owns_lit (W : World) (l : List Nat) (h : l.length ≤ 100) : (W.alloc (.cells (cI l).toArray 3)).ownsRow W.heap.size 3 1 (.slice (some ⟨W.heap.size, 0, none⟩) l.length l.length) l.length (cI l) := by
  refine ⟨by simp [cI], Or.inr ⟨W.heap.size, l.length, (cI l).toArray, rfl, Nat.le_refl _, heap_alloc_new _ _, Nat.le_refl _, by unfold maxLen; omega, by simp [cI], ?_⟩⟩
  rw [List.take_of_length_le (by simp [cI])]

set_option maxHeartbeats 1000000 in
/-- Two rows that hold the same. -/
theorem ints_same (a1 a2 : Option Addr) (c1 c2 : Nat) (b1 b2 : Nat) (l : List Nat) (w : World) (hl : l.length ≤ 100) (h1 : w.ownsRow b1 3 1 (.slice a1 l.length c1) l.length (cI l)) (h2 : w.ownsRow b2 3 1 (.slice a2 l.length c2) l.length (cI l)) :
    Calls Try.prog 10 #[.slice a1 l.length c1, .slice a2 l.length c2] w fun e w' => e = .returned (.bool true) ∧ Below w.heap.size w w' := by
  have H1 := hide h1
  have H2 := hide h2
  clear h1 h2
  go_enter Try.func10, Try.ntmps10
  go_wp2
  go_loopw [5] (fun i wr => ∃ k : Nat, k ≤ l.length ∧ i = .int .i64 k ∧ Below w.heap.size w wr) (fun i _ => l.length - (intOf i).toNat)
  case atStart => exact ⟨0, Nat.zero_le _, rfl, Below.refl _ _⟩
  case round =>
    obtain ⟨k, hk, rfl, hnx⟩ := hrel
    by_cases hlt : k < l.length
    · obtain ⟨g1, d1, hv1, _⟩ := owns_block (owns_below H1.out hnx) (by omega)
      obtain ⟨g2, d2, hv2, _⟩ := owns_block (owns_below H2.out hnx) (by omega)
      simp only [Value.slice.injEq, true_and] at hv1 hv2
      obtain ⟨rfl, rfl⟩ := hv1
      obtain ⟨rfl, rfl⟩ := hv2
      have q1 := (HasR.of_owns (owns_below H1.out hnx)).cell hlt
      have q2 := (HasR.of_owns (owns_below H2.out hnx)).cell hlt
      have b1 : (k : Int) < (l.length : Int) := by omega
      have b0 : (0 : Int) ≤ (k : Int) := by omega
      generalize l.getD k 0 = X at *
      go_wp2_with fail
      go_quiet (fail)
      go_wp2
      go_roundw
      case rel => exact ⟨k + 1, by omega, by go_num, hnx.trans ((below_drewN _ _).mono hnx.size)⟩
      case measure => simp [intOf]; omega
    · go_wp2
      go_ret
      exact ⟨rfl, hnx⟩

end Go.Proofs.Ytnciefdhgokffaa
