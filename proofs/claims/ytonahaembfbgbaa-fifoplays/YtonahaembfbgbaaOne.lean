/-
  Plain facts for the law FifoOne: how often each item has been met; and a row of counts in memory.
-/
import Derived.Test.YtonahaembfbgbaaMem
namespace Go.Proofs.Ytonahaembfbgbaa
open Go.RowKit

theorem pushOf_sizes (s : Qs) (k x : Int) : (pushOf s k x).nq = s.nq ∧ (pushOf s k x).ni = s.ni := by
  unfold pushOf
  split <;> exact ⟨rfl, rfl⟩
theorem rmOf_sizes (s : Qs) (x : Int) : (rmOf s x).nq = s.nq ∧ (rmOf s x).ni = s.ni := by
  unfold rmOf
  split <;> exact ⟨rfl, rfl⟩
theorem popOf_sizes (s : Qs) (k : Int) : (popOf s k).nq = s.nq ∧ (popOf s k).ni = s.ni := by
  unfold popOf
  split
  · exact ⟨rfl, rfl⟩
  · exact rmOf_sizes _ _
/-- So many queues for so many items. -/
structure Sz (s : Qs) (nq ni : Nat) : Prop where
  ok : Ok s
  nq : s.nq = nq
  ni : s.ni = ni
theorem Sz.push {s : Qs} {nq ni : Nat} (h : Sz s nq ni) (k x : Int) : Sz (pushOf s k x) nq ni := ⟨pushOf_ok h.ok _ _, (pushOf_sizes s k x).1.trans h.nq, (pushOf_sizes s k x).2.trans h.ni⟩
theorem Sz.rm {s : Qs} {nq ni : Nat} (h : Sz s nq ni) (x : Int) : Sz (rmOf s x) nq ni := ⟨rmOf_ok h.ok _, (rmOf_sizes s x).1.trans h.nq, (rmOf_sizes s x).2.trans h.ni⟩
theorem Sz.pop {s : Qs} {nq ni : Nat} (h : Sz s nq ni) (k : Int) : Sz (popOf s k) nq ni := ⟨popOf_ok h.ok _, (popOf_sizes s k).1.trans h.nq, (popOf_sizes s k).2.trans h.ni⟩
theorem push_was {s : Qs} {k x : Int} (h : pushB s k x = true) : whereOf s x = -1 := by
  unfold pushB at h
  split at h
  · rename_i hf
    unfold whereOf
    rw [if_pos hf.2.1]
    exact hf.2.2
  · cases h

/-- How often an item has been met when n queues, and k items of the next one, are over. -/
def met (s : Qs) (n k x : Nat) : Nat := (if 0 ≤ s.wh x ∧ s.wh x < (n : Int) then 1 else 0) + (if x ∈ (s.l n).take k then 1 else 0)
theorem met_start (s : Qs) (x : Nat) : met s 0 0 x = 0 := by
  unfold met
  rw [if_neg (by omega)]; simp
theorem met_none {s : Qs} (hs : Ok s) {n k x : Nat} (hn : n < s.nq) (hk : (s.l n)[k]? = some x) : met s n k x = 0 := by
  have hm := (hs.mem n x hn).1 (List.mem_of_getElem? hk)
  unfold met
  rw [if_neg (by rw [hm.2]; omega), if_neg]
  intro h
  have hkl := (List.getElem?_eq_some_iff.1 hk).1
  have hkx := (List.getElem?_eq_some_iff.1 hk).2
  have e2 : (s.l n).drop k = x :: (s.l n).drop (k + 1) := by rw [List.drop_eq_getElem_cons hkl, hkx]
  have hnd : ((s.l n).take k ++ x :: (s.l n).drop (k + 1)).Nodup := by rw [← e2, List.take_append_drop]; exact hs.nodup n hn
  rw [List.nodup_append] at hnd
  exact hnd.2.2 x h x (by simp) rfl
theorem met_step {s : Qs} {n k x y : Nat} (hk : (s.l n)[k]? = some x) : met s n (k + 1) y = if y = x then met s n k y + (if y ∈ (s.l n).take k then 0 else 1) else met s n k y := by
  unfold met
  rw [List.take_add_one, hk]
  by_cases e : y = x
  · subst e
    by_cases h : y ∈ (s.l n).take k
    · simp [h]
    · simp [h]
  · simp [e]
theorem met_next {s : Qs} (hs : Ok s) {n k x : Nat} (hn : n < s.nq) (hk : (s.l n)[k]? = some x) (y : Nat) : met s n (k + 1) y = if y = x then 1 else met s n k y := by
  rw [met_step hk]
  by_cases e : y = x
  · subst e
    have h0 := met_none hs hn hk
    rw [if_pos rfl, if_pos rfl, h0]
    unfold met at h0
    by_cases h : y ∈ (s.l n).take k
    · rw [if_pos h] at h0; omega
    · rw [if_neg h]
  · rw [if_neg e, if_neg e]
theorem met_queue {s : Qs} (hs : Ok s) {n x : Nat} (hn : n < s.nq) (hx : x < s.ni) : met s n (s.l n).length x = met s (n + 1) 0 x := by
  unfold met
  rw [List.take_length]
  have hm := hs.mem n x hn
  by_cases h : x ∈ s.l n
  · have hw := (hm.1 h).2
    rw [if_pos h, if_neg (by omega), if_pos (by omega)]; simp
  · have hw : s.wh x ≠ (n : Int) := fun e => h (hm.2 ⟨hx, e⟩)
    rw [if_neg h]
    by_cases h2 : 0 ≤ s.wh x ∧ s.wh x < (n : Int)
    · rw [if_pos h2, if_pos (by omega)]; simp
    · rw [if_neg h2, if_neg (by omega)]; simp
theorem met_end {s : Qs} (hs : Ok s) {x : Nat} (hx : x < s.ni) : met s s.nq 0 x ≤ 1 ∧ (met s s.nq 0 x = 0 → whereOf s (x : Int) = -1) := by
  unfold met
  simp only [List.take_zero, List.not_mem_nil, if_false, Nat.add_zero]
  split
  · exact ⟨Nat.le_refl _, fun h => by cases h⟩
  · rename_i h
    refine ⟨Nat.zero_le _, fun _ => ?_⟩
    unfold whereOf
    rw [if_pos (show hasI s (x : Int) from ⟨by omega, by omega⟩)]
    rcases hs.wh x hx with e | e
    · simpa using e
    · exact absurd e h

theorem few_below : ∀ (m : Nat) (l : List Nat), l.Nodup → (∀ x ∈ l, x < m) → l.length ≤ m
  | 0, l, _, h => by
    cases l with
    | nil => simp
    | cons a r => exact absurd (h a (by simp)) (by omega)
  | m + 1, l, hn, h => by
    by_cases hm : m ∈ l
    · obtain ⟨l1, l2, rfl⟩ := List.append_of_mem hm
      have hf := split_filter hn
      have hn2 : (l1 ++ l2).Nodup := by rw [← hf]; exact hn.filter _
      have := few_below m (l1 ++ l2) hn2 (fun x hx => by
        rw [← hf] at hx
        simp only [List.mem_filter, bne_iff_ne] at hx
        have := h x hx.1
        omega)
      simp at this ⊢
      omega
    · have := few_below m l hn (fun x hx => by
        have h1 := h x hx
        have h2 : x ≠ m := fun e => hm (e ▸ hx)
        omega)
      omega
theorem all_few {s : Qs} (hs : Ok s) (k : Int) : (allOf s k).length ≤ 32 := by
  unfold allOf
  split
  · rename_i hk
    have := few_below s.ni (s.l k.toNat) (hs.nodup _ (by omega)) (fun x hx => ((hs.mem _ x (by omega)).1 hx).1)
    have := hs.ni
    omega
  · simp
theorem all_nat {s : Qs} {k : Nat} (hk : k < s.nq) : allOf s (k : Int) = s.l k := by
  unfold allOf
  rw [if_pos (show hasQ s (k : Int) from ⟨by omega, by omega⟩)]
  rfl

/-- A row of counts. -/
def HasC (w : World) (G n : Nat) (c : Nat → Nat) : Prop := ∃ cs, w.heap[G]? = some (.cells cs 3 (0, 0)) ∧ cs.size = n ∧ ∀ i, i < n → cs[i]? = some (.int .i64 (c i : Int))
theorem HasC.cell {w : World} {G n : Nat} {c : Nat → Nat} (h : HasC w G n c) {k : Nat} (hk : k < n) : w.cell? ⟨G, k, none⟩ = some (.int .i64 (c k : Int)) ∧ w.frozen? ⟨G, k, none⟩ = false := by
  obtain ⟨cs, h1, h2, h3⟩ := h
  exact ⟨(Lib.cell_of_heap h1 _).trans (h3 k hk), Lib.frozen_of_heap h1 k⟩
theorem HasC.lt {w : World} {G n : Nat} {c : Nat → Nat} (h : HasC w G n c) : G < w.heap.size := by
  obtain ⟨cs, h1, _⟩ := h
  exact (Array.getElem?_eq_some_iff.1 h1).1
theorem HasC.below {w w' : World} {G n : Nat} {c : Nat → Nat} (h : HasC w G n c) (k : Below w.heap.size w w') : HasC w' G n c := by
  obtain ⟨cs, h1, h2⟩ := h
  exact ⟨cs, (k.block G (Array.getElem?_eq_some_iff.1 h1).1).trans h1, h2⟩
theorem HasC.to {w : World} {G n : Nat} {c d : Nat → Nat} (h : HasC w G n c) (e : ∀ i, i < n → d i = c i) : HasC w G n d := by
  obtain ⟨cs, h1, h2, h3⟩ := h
  exact ⟨cs, h1, h2, fun i hi => by rw [e i hi]; exact h3 i hi⟩
theorem HasC.set {w : World} {G n : Nat} {c d : Nat → Nat} (h : HasC w G n c) (k v : Nat) (e : ∀ i, i < n → d i = if i = k then v else c i) : HasC (w.setCell ⟨G, k, none⟩ (.int .i64 (v : Int))) G n d := by
  obtain ⟨cs, h1, h2, h3⟩ := h
  refine ⟨_, Lib.heap_setCell_same h1 _, by simpa using h2, fun i hi => ?_⟩
  rw [e i hi, Array.getElem?_setIfInBounds]
  by_cases ei : i = k
  · subst ei
    rw [if_pos rfl, if_pos rfl, if_pos (by omega)]
  · rw [if_neg (Ne.symm ei), if_neg ei]; exact h3 i hi
theorem AtQ.far {w : World} {B P G : Nat} {s : Qs} (h : AtQ w B P s) (h1 : G ≠ B) (h2 : G ≠ P) (k : Nat) (v : Value) : AtQ (w.setCell ⟨G, k, none⟩ v) B P s :=
  h.same (Below.heap_setCell _ _ _ _ (Ne.symm h1)) (Below.heap_setCell _ _ _ _ (Ne.symm h2))
theorem owns_far {w : World} {G base e size n k : Nat} {v u : Value} {xs : List Value} (h : w.ownsRow base e size v n xs) (hG : G < base) : (w.setCell ⟨G, k, none⟩ u).ownsRow base e size v n xs := by
  refine ⟨h.1, ?_⟩
  rcases h.2 with h3 | ⟨g, cap, cur, rfl, hb, hh, r⟩
  · exact Or.inl h3
  · exact Or.inr ⟨g, cap, cur, rfl, hb, (Below.heap_setCell _ _ _ _ (show g ≠ G by omega)).trans hh, r⟩

end Go.Proofs.Ytonahaembfbgbaa
