/-
  A row of numbers that is being sorted beside timers: its memory, exchanges, and what is in order.
-/
import Derived.Test.YtnciefdhgokffaaOrder
import Derived.Laws.OwnMore
import Derived.OwnWalk
namespace Go.Proofs.Ytnciefdhgokffaa
open Go.RowKit

def cI (l : List Nat) : List Value := l.map fun n : Nat => Value.int .i64 (n : Int)
theorem cI_snoc (l : List Nat) (k : Nat) : cI (l ++ [k]) = cI l ++ [.int .i64 (k : Int)] := by simp [cI]
theorem cI_len (l : List Nat) : (cI l).length = l.length := by simp [cI]

def HasR (W : World) (g c n : Nat) (x : Nat → Nat) : Prop :=
  ∃ cs, W.heap[g]? = some (.cells cs 3 (0, 0)) ∧ cs.size = c ∧ n ≤ c ∧ c ≤ maxLen ∧ ∀ k, k < n → cs[k]? = some (.int .i64 ((x k : Nat) : Int))
theorem HasR.cell {W : World} {g c n : Nat} {x : Nat → Nat} (h : HasR W g c n x) {k : Nat} (hk : k < n) : W.cell? ⟨g, k, none⟩ = some (.int .i64 ((x k : Nat) : Int)) := by
  obtain ⟨cs, h1, _, _, _, h2⟩ := h
  exact (Lib.cell_of_heap h1 _).trans (h2 k hk)
theorem HasR.frozen {W : World} {g c n : Nat} {x : Nat → Nat} (h : HasR W g c n x) (k : Nat) : W.frozen? ⟨g, k, none⟩ = false := by
  obtain ⟨cs, h1, _⟩ := h
  exact Lib.frozen_of_heap h1 k
theorem HasR.lt {W : World} {g c n : Nat} {x : Nat → Nat} (h : HasR W g c n x) : g < W.heap.size := by
  obtain ⟨cs, h1, _⟩ := h
  exact (Array.getElem?_eq_some_iff.1 h1).1
theorem HasR.same {W W' : World} {g c n : Nat} {x : Nat → Nat} (h : HasR W g c n x) (k : W'.heap[g]? = W.heap[g]?) : HasR W' g c n x := by
  obtain ⟨cs, h1, h2⟩ := h
  exact ⟨cs, k.trans h1, h2⟩
theorem HasR.to {W : World} {g c n : Nat} {x y : Nat → Nat} (h : HasR W g c n x) (e : ∀ k, k < n → y k = x k) : HasR W g c n y := by
  obtain ⟨cs, h1, h2, h3, h4, h5⟩ := h
  exact ⟨cs, h1, h2, h3, h4, fun k hk => by rw [e k hk]; exact h5 k hk⟩
theorem HasR.set {W : World} {g c n : Nat} {x : Nat → Nat} (h : HasR W g c n x) {k : Nat} (hk : k < n) (v : Nat) : HasR (W.setCell ⟨g, k, none⟩ (.int .i64 (v : Int))) g c n (fun i => if i = k then v else x i) := by
  obtain ⟨cs, h1, h2, h3, h4, h5⟩ := h
  refine ⟨_, Lib.heap_setCell_same h1 _, by simpa using h2, h3, h4, fun i hi => ?_⟩
  by_cases e : i = k
  · subst e
    simp only [if_true]
    rw [Array.getElem?_setIfInBounds, if_pos rfl, if_pos (by omega)]
  · simp only [if_neg e]
    rw [Array.getElem?_setIfInBounds, if_neg (by omega)]
    exact h5 i hi
theorem HasR.of_owns {W : World} {base g c : Nat} {l : List Nat} (h : W.ownsRow base 3 1 (.slice (some ⟨g, 0, none⟩) l.length c) l.length (cI l)) : HasR W g c l.length (fun k => l.getD k 0) := by
  rcases h.2 with ⟨h1, _⟩ | ⟨g', cap, cur, hv, _, hh, h3, h4, h5, h6⟩
  · cases h1
  · simp only [Value.slice.injEq, Option.some.injEq, Addr.mk.injEq, and_true, true_and] at hv
    obtain ⟨rfl, rfl⟩ := hv
    refine ⟨cur, hh, by omega, h3, h4, fun k hk => ?_⟩
    have : (cur.toList.take (l.length * 1))[k]? = (cI l)[k]? := by rw [h6]
    rw [List.getElem?_take, if_pos (by omega), Array.getElem?_toList] at this
    rw [this]
    simp [cI, hk]
theorem HasR.owns {W : World} {base g c n : Nat} {x : Nat → Nat} (h : HasR W g c n x) (hb : base ≤ g) : W.ownsRow base 3 1 (.slice (some ⟨g, 0, none⟩) n c) n (cI ((List.range n).map x)) := by
  obtain ⟨cs, h1, h2, h3, h4, h5⟩ := h
  refine ⟨by simp [cI], Or.inr ⟨g, c, cs, rfl, hb, h1, h3, h4, by omega, ?_⟩⟩
  refine List.ext_getElem? fun k => ?_
  rw [List.getElem?_take]
  by_cases hk : k < n
  · rw [if_pos (by omega), Array.getElem?_toList, h5 k hk]
    simp [cI, hk]
  · rw [if_neg (by omega)]
    simp [cI, hk]

def swp (x : Nat → Nat) (i j : Nat) : Nat → Nat := fun k => if k = i then x j else if k = j then x i else x k
theorem swp_l (x : Nat → Nat) (i j : Nat) : swp x i j i = x j := by simp [swp]
theorem swp_r (x : Nat → Nat) (i j : Nat) : swp x i j j = x i := by unfold swp; split <;> simp_all
theorem swp_o (x : Nat → Nat) {i j k : Nat} (h1 : k ≠ i) (h2 : k ≠ j) : swp x i j k = x k := by simp [swp, h1, h2]
def SwN (lo hi : Nat) (x : Nat → Nat) : Nat → (Nat → Nat) → Prop
  | 0, y => y = x
  | k + 1, y => ∃ (z : Nat → Nat) (i j : Nat), SwN lo hi x k z ∧ lo ≤ i ∧ i < hi ∧ lo ≤ j ∧ j < hi ∧ y = swp z i j
/-- One comes out of the other by exchanges from lo to hi. -/
def Sw (lo hi : Nat) (x y : Nat → Nat) : Prop := ∃ k, SwN lo hi x k y
theorem Sw.refl {lo hi : Nat} {x : Nat → Nat} : Sw lo hi x x := ⟨0, rfl⟩
theorem Sw.step {lo hi : Nat} {x y : Nat → Nat} (i j : Nat) (h : Sw lo hi x y) (h1 : lo ≤ i) (h2 : i < hi) (h3 : lo ≤ j) (h4 : j < hi) : Sw lo hi x (swp y i j) := by
  obtain ⟨k, h⟩ := h
  exact ⟨k + 1, y, i, j, h, h1, h2, h3, h4, rfl⟩
theorem Sw.ind {lo hi : Nat} {x : Nat → Nat} {P : (Nat → Nat) → Prop} (h0 : P x) (hs : ∀ y i j, lo ≤ i → i < hi → lo ≤ j → j < hi → P y → P (swp y i j)) {y : Nat → Nat} (h : Sw lo hi x y) : P y := by
  obtain ⟨k, h⟩ := h
  induction k generalizing y with
  | zero => rw [show y = x from h]; exact h0
  | succ k ih =>
    obtain ⟨z, i, j, hz, h1, h2, h3, h4, rfl⟩ := h
    exact hs z i j h1 h2 h3 h4 (ih hz)
theorem Sw.trans {lo hi : Nat} {x y z : Nat → Nat} (h : Sw lo hi x y) (k : Sw lo hi y z) : Sw lo hi x z :=
  Sw.ind (P := fun z => Sw lo hi x z) h (fun _ i j h1 h2 h3 h4 ih => ih.step i j h1 h2 h3 h4) k
theorem Sw.mono {lo hi lo' hi' : Nat} {x y : Nat → Nat} (h : Sw lo hi x y) (h1 : lo' ≤ lo) (h2 : hi ≤ hi') : Sw lo' hi' x y :=
  Sw.ind (P := fun z => Sw lo' hi' x z) .refl (fun _ i j a b c d ih => ih.step i j (by omega) (by omega) (by omega) (by omega)) h
theorem Sw.all {lo hi : Nat} {x y : Nat → Nat} (h : Sw lo hi x y) (P : Nat → Prop) (hp : ∀ k, lo ≤ k → k < hi → P (x k)) : ∀ k, lo ≤ k → k < hi → P (y k) := by
  refine Sw.ind (P := fun z => ∀ k, lo ≤ k → k < hi → P (z k)) hp (fun z i j a b c d ih => ?_) h
  intro k h1 h2
  by_cases e : k = i
  · subst e; rw [swp_l]; exact ih _ c d
  · by_cases e' : k = j
    · subst e'; rw [swp_r]; exact ih _ a b
    · rw [swp_o _ e e']; exact ih k h1 h2
theorem Sw.out {lo hi : Nat} {x y : Nat → Nat} (h : Sw lo hi x y) {k : Nat} (hk : k < lo ∨ hi ≤ k) : y k = x k :=
  Sw.ind (P := fun z => z k = x k) rfl (fun z i j a b c d ih => by rw [swp_o _ (by omega) (by omega)]; exact ih) h
theorem perm_swap2 (l : List Nat) (i j : Nat) (hi : i < l.length) (hj : j < l.length) : ((l.set i (l.getD j 0)).set j (l.getD i 0)).Perm l := by
  have h := @List.set_set_perm _ l i j hi hj
  rw [List.getD_eq_getElem?_getD, List.getD_eq_getElem?_getD, List.getElem?_eq_getElem hi, List.getElem?_eq_getElem hj]
  simpa using h
theorem swp_list (x : Nat → Nat) (n i j : Nat) (hi : i < n) (hj : j < n) : (List.range n).map (swp x i j) = ((((List.range n).map x).set i (((List.range n).map x).getD j 0)).set j (((List.range n).map x).getD i 0)) := by
  refine List.ext_getElem? fun k => ?_
  by_cases hk : k < n
  · have e1 : ((List.range n).map x).getD j 0 = x j := by simp [hj]
    have e2 : ((List.range n).map x).getD i 0 = x i := by simp [hi]
    rw [e1, e2]
    by_cases a : k = j
    · subst a
      rw [List.getElem?_set_self (by simpa using hk)]
      simp [hk, swp_r]
    · rw [List.getElem?_set_ne (by omega)]
      by_cases b : k = i
      · subst b
        rw [List.getElem?_set_self (by simpa using hk)]
        simp [hk, swp_l]
      · rw [List.getElem?_set_ne (by omega)]
        simp [hk, swp_o _ b a]
  · simp [hk]
theorem Sw.perm {lo hi n : Nat} {x y : Nat → Nat} (h : Sw lo hi x y) (hn : hi ≤ n) : ((List.range n).map y).Perm ((List.range n).map x) := by
  refine Sw.ind (P := fun z => ((List.range n).map z).Perm ((List.range n).map x)) (.refl _) (fun z i j a b c d ih => ?_) h
  rw [swp_list _ _ _ _ (by omega) (by omega)]
  exact (perm_swap2 _ _ _ (by simp; omega) (by simp; omega)).trans ih

def Sd (K : Nat → Nat) (lo hi : Nat) (x : Nat → Nat) : Prop := ∀ p q, lo ≤ p → p < q → q < hi → K (x p) ≤ K (x q)

structure Srt (w0 : World) (g c n B : Nat) (σ : Ws) (x : Nat → Nat) (W : World) : Prop where
  row : HasR W g c n x
  tim : AtW W B σ
  turn : Turn g w0 W
  ids : ∀ k, k < n → x k < 16
theorem Srt.ne {w0 : World} {g c n B : Nat} {σ : Ws} {x : Nat → Nat} {W : World} (h : Srt w0 g c n B σ x W) : B ≠ g := by
  intro e
  subst e
  obtain ⟨cs, h1, _⟩ := h.row
  obtain ⟨cs', h2, _⟩ := h.tim.box
  rw [h1] at h2
  simp at h2
theorem Srt.below {w0 : World} {g c n B : Nat} {σ : Ws} {x : Nat → Nat} {W W' : World} (h : Srt w0 g c n B σ x W) (k : Below W.heap.size W W') : Srt w0 g c n B σ x W' :=
  ⟨h.row.same (k.block _ h.row.lt), h.tim.below k, h.turn.trans (.of_below k), h.ids⟩
theorem Srt.drewN {w0 : World} {g c n B : Nat} {σ : Ws} {x : Nat → Nat} {W : World} (h : Srt w0 g c n B σ x W) (k : Nat) : Srt w0 g c n B σ x (W.drewN k) := h.below (below_drewN _ _)
theorem Srt.drew {w0 : World} {g c n B : Nat} {σ : Ws} {x : Nat → Nat} {W : World} (h : Srt w0 g c n B σ x W) : Srt w0 g c n B σ x W.drew := h.below (below_drewN _ 1)
theorem Srt.cell {w0 : World} {g c n B : Nat} {σ : Ws} {x : Nat → Nat} {W : World} (h : Srt w0 g c n B σ x W) {k : Nat} (hk : k < n) : W.cell? ⟨g, k, none⟩ = some (.int .i64 ((x k : Nat) : Int)) := h.row.cell hk
theorem Srt.swap {w0 : World} {g c n B : Nat} {σ : Ws} {x : Nat → Nat} {W : World} (h : Srt w0 g c n B σ x W) {i j : Nat} (hi : i < n) (hj : j < n) :
    Srt w0 g c n B σ (swp x i j) ((W.setCell ⟨g, i, none⟩ (.int .i64 ((x j : Nat) : Int))).setCell ⟨g, j, none⟩ (.int .i64 ((x i : Nat) : Int))) := by
  refine ⟨((h.row.set hi (x j)).set hj (x i)).to fun k _ => ?_, (h.tim.same (Below.heap_setCell _ _ _ _ h.ne)).same (Below.heap_setCell _ _ _ _ h.ne), (h.turn.set _ _).set _ _, fun k hk => ?_⟩
  · by_cases a : k = j
    · subst a; rw [swp_r]; simp
    · by_cases b : k = i
      · subst b; rw [swp_l]; simp [a]
      · rw [swp_o _ b a]; simp [a, b]
  · by_cases a : k = j
    · subst a; rw [swp_r]; exact h.ids _ hi
    · by_cases b : k = i
      · subst b; rw [swp_l]; exact h.ids _ hj
      · rw [swp_o _ b a]; exact h.ids _ hk
/-- Two of a row are held against each other. -/
theorem Srt.cmp {w0 : World} {g c n B : Nat} {σ : Ws} {x : Nat → Nat} {W : World} (h : Srt w0 g c n B σ x W) {i j : Nat} (hi : i < n) (hj : j < n) :
    Calls Try.prog 24 #[.pointer (some ⟨B, 0, none⟩), .int .i64 ((x i : Nat) : Int), .int .i64 ((x j : Nat) : Int)] W fun e w' => e = .returned (.int .i64 (ordI σ (x i) (x j))) ∧ Srt w0 g c n B σ x w' :=
  (order_any B σ (x i) (x j) (h.ids _ hi) (h.ids _ hj) W h.tim).mono fun _ _ k => ⟨k.1, h.below k.2⟩

end Go.Proofs.Ytnciefdhgokffaa
