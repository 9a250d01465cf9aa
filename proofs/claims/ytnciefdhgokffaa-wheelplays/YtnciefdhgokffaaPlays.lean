/-
  The program's timers and the document's, side by side in memory; what each call makes of both.
-/
import Derived.Test.YtnciefdhgokffaaSimDue
import Derived.Test.YtnciefdhgokffaaSimSet
import Derived.Test.YtnciefdhgokffaaAwake
namespace Go.Proofs.Ytnciefdhgokffaa
open Go.RowKit

theorem sub_len : ∀ {l m : List Nat}, l.Nodup → (∀ x ∈ l, x ∈ m) → l.length ≤ m.length
  | [], _, _, _ => Nat.zero_le _
  | x :: l, m, hn, h => by
    have hx : x ∈ m := h x List.mem_cons_self
    have h1 := sub_len (m := m.erase x) (List.nodup_cons.1 hn).2 (fun y hy => by
      have hne : y ≠ x := fun e => (List.nodup_cons.1 hn).1 (e ▸ hy)
      exact (List.mem_erase_of_ne hne).2 (h y (List.mem_cons_of_mem _ hy)))
    have h2 := List.length_erase_of_mem hx
    have h3 : 0 < m.length := List.length_pos_of_mem hx
    simp only [List.length_cons]
    omega
theorem sim_len {σ : Ws} {l : List (Nat × Nat)} (h : Sim σ l) : l.length ≤ σ.n := by
  have h1 : (l.map Prod.fst).Nodup := by
    rw [List.Nodup, List.pairwise_map]
    exact h.srt.imp fun {a b} hk e => by rw [e] at hk; exact Nat.lt_irrefl _ hk
  have h2 := sub_len (m := List.range σ.n) h1 fun x hx => by
    obtain ⟨p, hp, rfl⟩ := List.mem_map.1 hx
    exact List.mem_range.2 ((h.mem p).1 hp).1
  simpa using h2
theorem set_n (σ : Ws) (id t : Int) : (setOf σ id t).n = σ.n := by unfold setOf; split <;> rfl
theorem most_has {σ : Ws} {timers id : Int} (hn : σ.n = heldN timers) : hasT σ id ↔ (0 ≤ id ∧ id < mostOf timers) := by
  unfold hasT mostOf
  rw [hn]
  unfold heldN
  constructor
  · intro ⟨a, b⟩; split <;> omega
  · intro ⟨a, b⟩; split at b <;> omega
theorem set_no {σ : Ws} {id t : Int} (h : ¬ hasT σ id) : setOf σ id t = σ ∧ setB σ id = false := ⟨if_neg h, decide_eq_false h⟩
theorem set_yes {σ : Ws} {id : Int} (h : hasT σ id) : setB σ id = true := decide_eq_true h

theorem ne_boxes {w : World} {B R : Nat} {σ : Ws} {M : Int} {v : Value} {l : List (Nat × Nat)} (hA : AtW w B σ) (hR : AtR w R M v l) : R ≠ B := by
  intro e
  subst e
  obtain ⟨cs, h1, _⟩ := hA.box
  have := h1.symm.trans hR.box
  simp at this
theorem ne_row {w : World} {B n base : Nat} {σ : Ws} {v : Value} {xs : List Value} (hA : AtW w B σ) (h : w.ownsRow base 41 2 v n xs) : ∀ k, v.ownBlock = some k → k ≠ B := by
  intro k hk e
  subst e
  obtain ⟨cs, h1, _⟩ := hA.box
  rcases h.2 with ⟨rfl, _⟩ | ⟨g, cap, cur, rfl, _, hh, _⟩
  · simp [Value.ownBlock] at hk
  · simp [Value.ownBlock] at hk
    subst hk
    have := h1.symm.trans hh
    simp at this
theorem owns_kept {w w' : World} {base e size n : Nat} {v : Value} {xs : List Value} (h : w.ownsRow base e size v n xs) (hk : ∀ k, v.ownBlock = some k → w'.heap[k]? = w.heap[k]?) : w'.ownsRow base e size v n xs := by
  refine ⟨h.1, ?_⟩
  rcases h.2 with h3 | ⟨g, cap, cur, rfl, hb, hh, r⟩
  · exact Or.inl h3
  · exact Or.inr ⟨g, cap, cur, rfl, hb, (hk g rfl).trans hh, r⟩
theorem AtR.turnW {w w' : World} {B R : Nat} {σ : Ws} {M : Int} {v : Value} {l : List (Nat × Nat)} (hR : AtR w R M v l) (hA : AtW w B σ) (t : Turn B w w') : AtR w' R M v l :=
  ⟨(t.block R hR.lt (ne_boxes hA hR)).trans hR.box, owns_kept hR.row fun k hk => t.block k (hR.row.lt k hk).2 (ne_row hA hR.row k hk)⟩
theorem AtW.turnR {w w' : World} {B R : Nat} {σ : Ws} {M : Int} {v : Value} {l : List (Nat × Nat)} (hA : AtW w B σ) (hR : AtR w R M v l) (t : Turn R w w') : AtW w' B σ :=
  hA.same (t.block B hA.lt (fun e => ne_boxes hA hR e.symm))
/-- A row of numbers is no box of either. -/
theorem owns_turnR {w w' : World} {R n base : Nat} {M : Int} {v u : Value} {l : List (Nat × Nat)} {xs : List Value} (h : w.ownsRow base 3 1 u n xs) (hR : AtR w R M v l) (t : Turn R w w') : w'.ownsRow base 3 1 u n xs := by
  refine owns_kept h fun k hk => t.block k (h.lt k hk).2 (fun e => ?_)
  subst e
  rcases h.2 with ⟨rfl, _⟩ | ⟨g, cap, cur, rfl, _, hh, _⟩
  · simp [Value.ownBlock] at hk
  · simp [Value.ownBlock] at hk
    subst hk
    have := hR.box.symm.trans hh
    simp at this

/-- Both, side by side. -/
structure PW (w : World) (B R : Nat) (M : Int) (X : Option (Nat × Array Value)) (σ : Ws) (l : List (Nat × Nat)) (W : World) : Prop where
  a : AtW W B σ
  r : ∃ v, AtR W R M v l
  b : Below w.heap.size w W
  x : ∀ k o, X = some (k, o) → W.heap[k]? = some (.cells o 28 (0, 0))
variable {w : World} {B R : Nat} {M : Int} {X : Option (Nat × Array Value)} {σ σ' : Ws} {l l' : List (Nat × Nat)}
theorem PW.below {W W' : World} (h : PW w B R M X σ l W) (k : Below W.heap.size W W') : PW w B R M X σ l W' := by
  obtain ⟨v, hR⟩ := h.r
  exact ⟨h.a.below k, ⟨v, hR.below k⟩, below_next h.b k, fun j o e => (k.block j (Array.getElem?_eq_some_iff.1 (h.x j o e)).1).trans (h.x j o e)⟩
theorem PW.drew {W : World} (h : PW w B R M X σ l W) : PW w B R M X σ l W.drew := h.below ⟨rfl, rfl, rfl, Nat.le_refl _, fun _ _ => rfl⟩
theorem PW.stepW {W W' : World} (h : PW w B R M X σ l W) (k : Now B σ' W W') (hB : w.heap.size ≤ B) : PW w B R M X σ' l W' := by
  obtain ⟨v, hR⟩ := h.r
  exact ⟨k.1, ⟨v, hR.turnW h.a k.2⟩, turn_next h.b k.2 hB, fun j o e => (k.2.block j (Array.getElem?_eq_some_iff.1 (h.x j o e)).1 (fun e2 => by
    subst e2
    obtain ⟨cs, h1, _⟩ := h.a.box
    have := h1.symm.trans (h.x _ o e)
    simp at this)).trans (h.x j o e)⟩
theorem PW.stepR {W W' : World} (h : PW w B R M X σ l W) (k : ∃ v, AtR W' R M v l' ∧ Turn R W W') (hR : w.heap.size ≤ R) : PW w B R M X σ l' W' := by
  obtain ⟨v, hR'⟩ := h.r
  obtain ⟨v', k1, k2⟩ := k
  exact ⟨h.a.turnR hR' k2, ⟨v', k1⟩, turn_next h.b k2 hR, fun j o e => (k2.block j (Array.getElem?_eq_some_iff.1 (h.x j o e)).1 (fun e2 => by
    subst e2
    have := hR'.box.symm.trans (h.x _ o e)
    simp at this)).trans (h.x j o e)⟩

theorem stop_both {K : Nat} (hO : Ok K σ) (hB : w.heap.size ≤ B) (id : Int) : ∀ W, PW w B R M X σ l W → Calls Try.prog 13 #[.pointer (some ⟨B, 0, none⟩), .int .i64 id] W fun e w' => e = .returned (.bool (stopB σ id)) ∧ PW w B R M X (stopOf σ id) l w' := fun W h =>
  (stop_any B σ id hO.n16 W h.a).mono fun _ _ ⟨q1, q2⟩ => ⟨q1, h.stepW q2 hB⟩
theorem stop_both2 {K : Nat} (hO : Ok K σ) (hS : Sim σ l) (hR : w.heap.size ≤ R) (id : Int) : ∀ W, PW w B R M X σ' l W → Calls Try.prog 14 #[.pointer (some ⟨R, 0, none⟩), .int .i64 id] W fun e w' => e = .returned (.bool (stopB σ id)) ∧ PW w B R M X σ' (keepR id l) w' := fun W h => by
  obtain ⟨v, hr⟩ := h.r
  have hl := sim_len hS
  have h16 := hO.n16
  rw [sim_stopB hS id]
  refine (refStop_any R M v l id (by omega) W hr).mono ?_
  rintro e w' ⟨q1, v', q2, q3, _⟩
  exact ⟨q1, h.stepR ⟨v', q2, q3⟩ hR⟩
theorem set_both {K : Nat} (hK : K ≤ 1000000) (hO : Ok K σ) (hB : w.heap.size ≤ B) (id t : Int) : ∀ W, PW w B R M X σ l W → Calls Try.prog 15 #[.pointer (some ⟨B, 0, none⟩), .int .i64 id, .int .i64 t] W fun e w' => e = .returned (.bool (setB σ id)) ∧ PW w B R M X (setOf σ id t) l w' := fun W h =>
  (set_any K hK B σ id t W hO h.a).mono fun _ _ ⟨q1, q2⟩ => ⟨q1, h.stepW q2 hB⟩
def setL (σ : Ws) (l : List (Nat × Nat)) (id t : Int) : List (Nat × Nat) := if hasT σ id then insR (keepR id l) id.toNat (holdN t) else l
theorem sim_setL {K : Nat} (hK : K + 1 ≤ 1000000) (hO : Ok K σ) (hS : Sim σ l) (id t : Int) : Sim (setOf σ id t) (setL σ l id t) := by
  unfold setL
  by_cases h : hasT σ id
  · rw [if_pos h]
    obtain ⟨n, hn⟩ : ∃ n : Nat, id = (n : Int) := ⟨id.toNat, by have := h.1; omega⟩
    subst hn
    rw [Int.toNat_natCast]
    exact sim_set hK hO hS n (by have := h.2; omega) t
  · rw [if_neg h, (set_no h).1]; exact hS
theorem set_both2 {K : Nat} {timers : Int} (hO : Ok K σ) (hS : Sim σ l) (hn : σ.n = heldN timers) (hM : M = mostOf timers) (hR : w.heap.size ≤ R) (id t : Int) : ∀ W, PW w B R M X σ' l W → Calls Try.prog 16 #[.pointer (some ⟨R, 0, none⟩), .int .i64 id, .int .i64 t] W fun e w' => e = .returned (.bool (setB σ id)) ∧ PW w B R M X σ' (setL σ l id t) w' := fun W h => by
  obtain ⟨v, hr⟩ := h.r
  have hl := sim_len hS
  have h16 := hO.n16
  unfold setL
  by_cases hh : hasT σ id
  · rw [if_pos hh, set_yes hh]
    have hm := (most_has hn).1 hh
    obtain ⟨n, hn'⟩ : ∃ n : Nat, id = (n : Int) := ⟨id.toNat, by omega⟩
    subst hn'
    rw [Int.toNat_natCast]
    refine (refSet_yes R M v l n t (by rw [hM]; exact hm.2) (by omega) W hr).mono ?_
    rintro e w' ⟨q1, v', q2, q3, _⟩
    exact ⟨q1, h.stepR ⟨v', q2, q3⟩ hR⟩
  · rw [if_neg hh, (set_no (t := t) hh).2]
    refine (refSet_no R M v l id t (by rw [hM]; exact fun k => hh ((most_has hn).2 k)) W hr).mono ?_
    rintro e w' ⟨q1, rfl⟩
    exact ⟨q1, h⟩
def dueL (l : List (Nat × Nat)) (t : Int) : List Nat := idsOf (l.take (lead (holdN t) l))
theorem dueL_len (l : List (Nat × Nat)) (t : Int) : (dueL l t).length = lead (holdN t) l := by
  unfold dueL
  rw [ids_len, List.length_take]
  have := lead_le (holdN t) l
  omega
theorem due_both {K : Nat} (hK : K ≤ 1000000) (hO : Ok K σ) (hS : Sim σ l) (hB : w.heap.size ≤ B) (t : Int) : ∀ W, PW w B R M X σ l W → Calls Try.prog 11 #[.pointer (some ⟨B, 0, none⟩), .int .i64 t] W fun e w' => ∃ a c, e = .returned (.slice a (dueL l t).length c) ∧ w'.ownsRow w.heap.size 3 1 (.slice a (dueL l t).length c) (dueL l t).length (cI (dueL l t)) ∧ PW w B R M X (dueOf σ t) l w' := fun W h => by
  refine (due_says hK hO (sim_due hK hO hS t).1 W h.a).mono ?_
  rintro e w' ⟨a, c, q1, q2, q3⟩
  refine ⟨a, c, q1, ?_, h.stepW q3 hB⟩
  refine ⟨q2.1, ?_⟩
  rcases q2.2 with h3 | ⟨g, cap, cur, e1, hb, r⟩
  · exact Or.inl h3
  · exact Or.inr ⟨g, cap, cur, e1, Nat.le_trans h.b.size hb, r⟩
theorem due_both2 {K : Nat} (hO : Ok K σ) (hS : Sim σ l) (hR : w.heap.size ≤ R) (t : Int) : ∀ W a c, W.ownsRow w.heap.size 3 1 (.slice a (dueL l t).length c) (dueL l t).length (cI (dueL l t)) → PW w B R M X σ' l W → Calls Try.prog 12 #[.pointer (some ⟨R, 0, none⟩), .int .i64 t] W fun e w' => ∃ a' c', e = .returned (.slice a' (dueL l t).length c') ∧ w'.ownsRow w.heap.size 3 1 (.slice a' (dueL l t).length c') (dueL l t).length (cI (dueL l t)) ∧ w'.ownsRow w.heap.size 3 1 (.slice a (dueL l t).length c) (dueL l t).length (cI (dueL l t)) ∧ PW w B R M X σ' (l.drop (lead (holdN t) l)) w' := fun W a c ho h => by
  obtain ⟨v, hr⟩ := h.r
  have hl := sim_len hS
  have h16 := hO.n16
  refine (refDue_any R M v l t (by omega) W hr).mono ?_
  rintro e w' ⟨a', c', q1, q2, v', q3, q4⟩
  have q5 : w'.ownsRow W.heap.size 3 1 (.slice a' (lead (holdN t) l) c') (lead (holdN t) l) (cI (dueL l t)) := q2
  rw [← dueL_len l t] at q1 q5
  refine ⟨a', c', q1, ?_, owns_turnR ho hr q4, h.stepR ⟨v', q3, q4⟩ hR⟩
  refine ⟨q5.1, ?_⟩
  rcases q5.2 with h3 | ⟨g, cap, cur, e1, hb, r⟩
  · exact Or.inl h3
  · exact Or.inr ⟨g, cap, cur, e1, Nat.le_trans h.b.size hb, r⟩

theorem PW.forget {W : World} (h : PW w B R M X σ l W) : PW w B R M none σ l W := ⟨h.a, h.r, h.b, fun _ _ e => by cases e⟩
theorem PW.boxed {W : World} (h : PW w B R M none σ l W) {bx : Nat} {o : Array Value} (hx : W.heap[bx]? = some (.cells o 28 (0, 0))) : PW w B R M (some (bx, o)) σ l W := ⟨h.a, h.r, h.b, fun j p e => by cases e; exact hx⟩
theorem PW.box {W : World} {bx : Nat} {a b c : Value} (h : PW w B R M (some (bx, #[a, b, c])) σ l W) : W.cell? ⟨bx, 0, none⟩ = some a ∧ W.cell? ⟨bx, 1, none⟩ = some b ∧ W.cell? ⟨bx, 2, none⟩ = some c :=
  ⟨Lib.cell_of_heap (h.x bx _ rfl) 0, Lib.cell_of_heap (h.x bx _ rfl) 1, Lib.cell_of_heap (h.x bx _ rfl) 2⟩

/-- What holds at each round's head. -/
def PlaysAt (w : World) (B R : Nat) (timers : Int) (K : Nat) (W : World) : Prop := ∃ σ l, Ok K σ ∧ σ.n = heldN timers ∧ Sim σ l ∧ PW w B R (mostOf timers) none σ l W

end Go.Proofs.Ytnciefdhgokffaa
