/-
  What the document's New comes to: so many places, none of them taken.
-/
import Derived.Test.YtngaecfainhjcaaARef
import Derived.Deep.RegionLaw
import Derived.Deep.DrawnRows
import Derived.Deep.AppendLies
import Derived.Deep.DeepCutAuto
namespace Go.Proofs.Ytngaecfainhjcaa.A
open Go.RowKit
attribute [local go_sem ↓] Go.wp_at_zero Go.wp_at_succ

def zeros (k : Nat) : List Nat := List.replicate k 0
theorem zeros_succ (k : Nat) : zeros (k + 1) = zeros k ++ [0] := by simp [zeros, List.replicate_succ']
theorem zeros_len (k : Nat) : (zeros k).length = k := by simp [zeros]
def rf0 (k : Nat) : Rf := ⟨zeros k, zeros k, [], 0⟩

/-- Behind the first append of the two. -/
structure Half (w0 w5 : World) (base k : Nat) (v1 v2 v1' : Value) : Prop where
  g : w5.ownsRow base 3 1 v1' (k + 1) (cI (zeros (k + 1)))
  n : w5.ownsRow base 3 1 v2 k (cI (zeros k))
  gn : ∀ j, v1'.ownBlock = some j → v2.ownBlock ≠ some j
  far : ∀ j, j < w0.heap.size → v1.ownBlock ≠ some j → w5.heap[j]? = w0.heap[j]?
  size : w0.heap.size ≤ w5.heap.size
  os : w5.os = w0.os
  tape : w5.tape = w0.tape
  output : w5.output = w0.output

theorem half_of {w0 w5 : World} {base k : Nat} {v1 v2 v1' : Value} (hn : w0.ownsRow base 3 1 v2 k (cI (zeros k))) (hd : ∀ j, v1.ownBlock = some j → v2.ownBlock ≠ some j)
    (hown : w5.ownsRow base 3 1 v1' (k + 1) (cI (zeros k) ++ [.int .i64 0])) (hgrow : w0.grownBy w5 v1.ownBlock) (hat : v1'.ownBlock = v1.ownBlock ∨ v1'.ownBlock = some w0.heap.size) : Half w0 w5 base k v1 v2 v1' := by
  refine ⟨?_, hn.kept hgrow ?_, fun j hj => ?_, fun j hj hne => hgrow.block j hj (fun e => hne e.symm), hgrow.size, hgrow.os, hgrow.tape, hgrow.output⟩
  · rw [zeros_succ, cI_snoc]; exact hown
  · cases h1 : v1.ownBlock with
    | none => cases h2 : v2.ownBlock with
      | none => exact Or.inl rfl
      | some j => right; simp
    | some i => cases h2 : v2.ownBlock with
      | none => exact Or.inl rfl
      | some j => right; intro e; exact hd i h1 (by rw [h2, e])
  · rcases hat with h | h
    · rw [h] at hj; exact hd j hj
    · rw [h] at hj
      injection hj with hj
      intro e
      have := (hn.lt _ e).2
      omega

theorem news_one {W : World} {b : Nat} {v : Value} (h : W.cell? ⟨b, 0, none⟩ = some v) : ∀ j u, [v][j]? = some u → W.cell? ((⟨b, 0, none⟩ : Addr).add j) = some u := by
  intro j u hj
  match j, hj with
  | 0, hj => simp at hj; subst hj; simpa [Addr.add] using h
theorem ones_int (x : Int) : ∀ u ∈ [Value.int .i64 x], u.oneCell' = true := by
  intro u hu
  simp at hu
  subst hu
  rfl

theorem new0 (w : World) : (w.alloc (.cells #[.int .i64 0] 3)).cell? ⟨w.heap.size, 0, none⟩ = some (.int .i64 0) := by simp [go_sem]
theorem new0a (w : World) : (w.alloc (.cells #[.int .i64 0] 3)).drew.cell? ⟨w.heap.size, 0, none⟩ = some (.int .i64 0) := by simp [go_sem]
theorem new0b (w : World) : ((w.alloc (.cells #[.int .i64 0] 3)).alloc (.cells #[.int .i64 0] 3)).drew.cell? ⟨w.heap.size, 0, none⟩ = some (.int .i64 0) := by simp [go_sem]
theorem new1 (w : World) : ((w.alloc (.cells #[.int .i64 0] 3)).alloc (.cells #[.int .i64 0] 3)).drew.cell? ⟨w.heap.size + 1, 0, none⟩ = some (.int .i64 0) := by simp [go_sem]
theorem below_of {W w' a : World} {n : Nat} {row : Option Nat} (_ : W.grownBy w' row) (h : Below n a W) : Below n a W := h
theorem at_of {v : Value} {g n c H : Nat} (h : v.ownBlock = some g ∨ g = H) : (Value.slice (some ⟨g, 0, none⟩) n c).ownBlock = v.ownBlock ∨ (Value.slice (some ⟨g, 0, none⟩) n c).ownBlock = some H := by
  rcases h with h | h
  · exact Or.inl (by rw [h]; rfl)
  · exact Or.inr (by rw [h]; rfl)

/-- The box's block is not a row's. -/
theorem AtR.boxne {w : World} {R base : Nat} {v1 v2 v3 : Value} {r : Rf} (h : AtR w R base v1 v2 v3 r) : v1.ownBlock ≠ some R ∧ v2.ownBlock ≠ some R ∧ v3.ownBlock ≠ some R := by
  have key : ∀ {v : Value} {n : Nat} {xs : List Value}, w.ownsRow base 3 1 v n xs → v.ownBlock ≠ some R := by
    intro v n xs ho e
    rcases ho.2 with ⟨rfl, _⟩ | ⟨g, cap, cur, rfl, _, hh, _⟩
    · simp [Value.ownBlock] at e
    · simp [Value.ownBlock] at e
      subst e
      have := h.box.symm.trans hh
      simp at this
  exact ⟨key h.g, key h.n, key h.b⟩
theorem blk4 {w : World} {R : Nat} {a b c d : Value} (h : w.heap[R]? = some (.cells #[a, b, c, d] 52 (0, 0))) (x y : Value) : ((w.setCell ⟨R, 0, none⟩ x).setCell ⟨R, 1, none⟩ y).heap[R]? = some (.cells #[x, y, c, d] 52 (0, 0)) :=
  Lib.heap_setCell_same (Lib.heap_setCell_same h x) y
theorem owns_set_far {w : World} {base e size n : Nat} {v : Value} {xs : List Value} (h : w.ownsRow base e size v n xs) {a : Addr} (hne : v.ownBlock ≠ some a.block) (u : Value) : (w.setCell a u).ownsRow base e size v n xs := by
  refine ⟨h.1, ?_⟩
  rcases h.2 with h3 | ⟨g, cap, cur, rfl, hb, hh, r⟩
  · exact Or.inl h3
  · exact Or.inr ⟨g, cap, cur, rfl, hb, (Below.heap_setCell _ _ _ _ (fun e => hne (by simp [Value.ownBlock, e]))).trans hh, r⟩

theorem new_box {w wr W1 w5 W2 w6 : World} {k : Nat} {v1 v2 v1' : Value} (hR : AtR wr w.heap.size w.heap.size v1 v2 (.slice none 0 0) (rf0 k)) (hW1 : Below wr.heap.size wr W1) (hH : Half W1 w5 w.heap.size k v1 v2 v1') (hW2 : Below w5.heap.size w5 W2) (hgrow : W2.grownBy w6 v2.ownBlock) :
    w6.heap[w.heap.size]? = some (.cells #[v1, v2, .slice none 0 0, .int .i64 0] 52 (0, 0)) := by
  have hl := hR.lt
  obtain ⟨n1, n2, _⟩ := hR.boxne
  have l1 := hW1.size
  have l2 := hH.size
  have l3 := hW2.size
  rw [hgrow.block _ (by omega) (fun e => n2 e.symm), hW2.block _ (by omega), hH.far _ (by omega) n1, hW1.block _ hl]
  exact hR.box

theorem new_done {w wr W1 w5 W2 w6 : World} {k : Nat} {v1 v2 v1' v2' : Value} (hR : AtR wr w.heap.size w.heap.size v1 v2 (.slice none 0 0) (rf0 k)) (hb : Below w.heap.size w wr) (hW1 : Below wr.heap.size wr W1) (hH : Half W1 w5 w.heap.size k v1 v2 v1') (hW2 : Below w5.heap.size w5 W2)
    (hown : w6.ownsRow w.heap.size 3 1 v2' (k + 1) (cI (zeros k) ++ [.int .i64 0])) (hgrow : W2.grownBy w6 v2.ownBlock) (hat : v2'.ownBlock = v2.ownBlock ∨ v2'.ownBlock = some W2.heap.size) :
    AtR ((w6.setCell ⟨w.heap.size, 0, none⟩ v1').setCell ⟨w.heap.size, 1, none⟩ v2') w.heap.size w.heap.size v1' v2' (.slice none 0 0) (rf0 (k + 1)) ∧ Below w.heap.size w ((w6.setCell ⟨w.heap.size, 0, none⟩ v1').setCell ⟨w.heap.size, 1, none⟩ v2') := by
  have hl := hR.lt
  have l1 := hW1.size
  have l2 := hH.size
  have l3 := hW2.size
  have hg1 : W2.ownsRow w.heap.size 3 1 v1' (k + 1) (cI (zeros (k + 1))) := owns_below hH.g hW2
  have hn2 : W2.ownsRow w.heap.size 3 1 v2 k (cI (zeros k)) := owns_below hH.n hW2
  have hg : w6.ownsRow w.heap.size 3 1 v1' (k + 1) (cI (zeros (k + 1))) := hg1.kept hgrow (by
    cases e : v1'.ownBlock with
    | none => exact Or.inl rfl
    | some j => exact Or.inr (fun x => hH.gn j e x.symm))
  have hbox := new_box hR hW1 hH hW2 hgrow
  have far : ∀ {v : Value} {n : Nat} {xs : List Value}, w6.ownsRow w.heap.size 3 1 v n xs → v.ownBlock ≠ some w.heap.size := by
    intro v n xs ho e
    rcases ho.2 with ⟨rfl, _⟩ | ⟨g, cap, cur, rfl, _, hh, _⟩
    · simp [Value.ownBlock] at e
    · simp [Value.ownBlock] at e
      subst e
      have := hbox.symm.trans hh
      simp at this
  have hown' : w6.ownsRow w.heap.size 3 1 v2' (k + 1) (cI (zeros (k + 1))) := by rw [zeros_succ, cI_snoc]; exact hown
  refine ⟨⟨blk4 hbox _ _, ?_, ?_, World.ownsRow_nil _ _ _ _, fun j hj e => ?_, fun _ _ e => (by cases e), fun _ _ e => (by cases e)⟩, ?_⟩
  · rw [show (rf0 (k + 1)).gens.length = k + 1 from zeros_len _]
    exact owns_set_far (owns_set_far hg (far hg) _) (far hg) _
  · rw [show (rf0 (k + 1)).now.length = k + 1 from zeros_len _]
    exact owns_set_far (owns_set_far hown' (far hown') _) (far hown') _
  · rcases hat with h | h
    · rw [h] at e; exact hH.gn j hj e
    · rw [h] at e
      injection e with e
      have := (hg1.lt _ hj).2
      omega
  · refine Below.setCell (B := w.heap.size) (p := ⟨w.heap.size, 1, none⟩) (Below.setCell (B := w.heap.size) (p := ⟨w.heap.size, 0, none⟩) ?_ (Nat.le_refl _) _) (Nat.le_refl _) _
    refine ⟨?_, ?_, ?_, ?_, fun j hj => ?_⟩
    · rw [hgrow.os, hW2.os, hH.os, hW1.os, hb.os]
    · rw [hgrow.tape, hW2.tape, hH.tape, hW1.tape, hb.tape]
    · rw [hgrow.output, hW2.output, hH.output, hW1.output, hb.output]
    · have := hgrow.size; have := hb.size; omega
    · rw [hgrow.block j (by omega) (fun e => by have := (hR.n.lt _ e.symm).1; omega), hW2.block j (by omega), hH.far j (by omega) (fun e => by have := (hR.g.lt _ e).1; omega), hW1.block j (by omega), hb.block j hj]

set_option maxHeartbeats 8000000 in
set_option maxRecDepth 100000 in
theorem refNew_body (most M : Int) (n : Nat) (hn : n ≤ 16) (hcmp : ∀ k : Nat, k < n ↔ (k : Int) < M) (w : World) (hcase : 16 < most ∧ M = 16 ∨ ¬ 16 < most ∧ M = most) :
    Calls Try.prog 31 #[.int .i64 most] w fun e w' => e = .returned (.pointer (some ⟨w.heap.size, 0, none⟩)) ∧ (∃ v1 v2, AtR w' w.heap.size w.heap.size v1 v2 (.slice none 0 0) (rf0 n)) ∧ Below w.heap.size w w' := by
  obtain ⟨i0, hi, hz0, hz1, hz2⟩ := info_parts info3
  have HC := hide hcmp
  clear hcmp
  rcases hcase with ⟨h1, rfl⟩ | ⟨h1, rfl⟩
  all_goals
    go_enter Try.func31, Try.ntmps31
    go_wp2
    go_loopw [4] (fun i wr => ∃ k : Nat, k ≤ n ∧ i = .int .i64 k ∧ (∃ v1 v2, AtR wr w.heap.size w.heap.size v1 v2 (.slice none 0 0) (rf0 k)) ∧ Below w.heap.size w wr) (fun i _ => n - (intOf i).toNat)
    case atStart =>
      refine ⟨0, Nat.zero_le _, rfl, ⟨.slice none 0 0, .slice none 0 0, ⟨?_, World.ownsRow_nil _ _ _ _, World.ownsRow_nil _ _ _ _, World.ownsRow_nil _ _ _ _, ?_, ?_, ?_⟩⟩, (Below.refl _ _).alloc (Nat.le_refl _) _⟩
      · exact heap_alloc_new _ _
      all_goals (intro k hk; cases hk)
    case round =>
      obtain ⟨k, hk, rfl, ⟨v1, v2, hR⟩, hb⟩ := hrel
      by_cases hlt : k < n
      · have hlt' := (HC.out k).1 hlt
        obtain ⟨c0, c1, _, _, hfz⟩ := hR.cells
        have f0 := hfz 0
        have f1 := hfz 1
        have hg : wr.ownsRow w.heap.size 3 1 v1 k (cI (zeros k)) := by have := hR.g; rwa [show (rf0 k).gens.length = k from zeros_len k] at this
        have hnn : wr.ownsRow w.heap.size 3 1 v2 k (cI (zeros k)) := by have := hR.n; rwa [show (rf0 k).now.length = k from zeros_len k] at this
        have hgn := hR.gn
        have hz := hb.size
        have hRl := hR.lt
        have HR := hide hR
        clear hR hfz
        obtain ⟨hr1, hr2, _⟩ := HR.out.boxne
        have hv1 : v1.ownBlock ≠ some wr.heap.size := fun e => by have := (hg.lt _ e).2; omega
        have hv1' : v1.ownBlock ≠ some (wr.heap.size + 1) := fun e => by have := (hg.lt _ e).2; omega
        go_wp2_with fail
        go_region_law
          (first
            | ((refine step_append_lies _ (by rfl) _ _ _ (by rfl) w.heap.size 3 i0 (.int .i64 0) 1 8 Try.underlying30 hi hz0 hz1 hz2 rfl (by omega) v1 k (cI (zeros k)) (by rfl) (by first | exact (hg.alloc _).drew | exact ((hg.alloc _).alloc _).drew) _ 1 1 [.int .i64 0] (by rfl) (by rfl) (by refine news_one ?_; first | exact new0a wr | exact new0b wr | exact new1 wr) (ones_int 0) (by omega) (by unfold maxLen; omega) (by omega) (by simp; omega) _ rfl ?_; intro gg cap' w5 hown5 hgrow5 hat5 hlt5; have hW1 : Below wr.heap.size wr _ := below_of hgrow5 (by first | exact ((Below.refl _ _).alloc (Nat.le_refl _) _).drew | exact (((Below.refl _ _).alloc (Nat.le_refl _) _).alloc (by simp) _).drew); have hHf := half_of (owns_below hnn hW1) hgn hown5 hgrow5 (at_of hat5); have hz5 : w.heap.size < w5.heap.size := Nat.lt_of_lt_of_le hRl (Nat.le_trans hW1.size hHf.size); have xc0 := hgrow5.cell ((hW1.cell (p := ⟨w.heap.size, 0, none⟩) hRl).trans c0) (Ne.symm hr1); have xc1 := hgrow5.cell ((hW1.cell (p := ⟨w.heap.size, 1, none⟩) hRl).trans c1) (Ne.symm hr1)))
            | ((refine step_append_lies _ (by rfl) _ _ _ (by rfl) w.heap.size 3 i0 (.int .i64 0) 1 8 Try.underlying30 hi hz0 hz1 hz2 rfl (by omega) v2 k (cI (zeros k)) (by rfl) (by first | exact hHf.n | exact hHf.n.alloc _) _ 1 1 [.int .i64 0] (by rfl) (by rfl) (by refine news_one ?_; first | exact hgrow5.cell (new0a wr) (Ne.symm hv1) | exact hgrow5.cell (new0b wr) (Ne.symm hv1) | exact hgrow5.cell (new1 wr) (Ne.symm hv1') | exact new0 w5) (ones_int 0) (by omega) (by unfold maxLen; omega) (by omega) (by have := hHf.size; have := hW1.size; simp; omega) _ rfl ?_; intro gg2 cap2 w6 hown6 hgrow6 hat6 hlt6; have hW2 : Below w5.heap.size w5 _ := below_of hgrow6 (by first | exact Below.refl _ _ | exact (Below.refl _ _).alloc (Nat.le_refl _) _); have hDn := new_done HR.out hb hW1 hHf hW2 hown6 hgrow6 (at_of hat6); have hbx := new_box HR.out hW1 hHf hW2 hgrow6; have yc0 : w6.cell? ⟨w.heap.size, 0, none⟩ = some v1 := Lib.cell_of_heap hbx 0; have yc1 : w6.cell? ⟨w.heap.size, 1, none⟩ = some v2 := Lib.cell_of_heap hbx 1; have yf0 := Lib.frozen_of_heap hbx 0; have yf1 := Lib.frozen_of_heap hbx 1; clear hbx hHf hown6 hgrow6 hown5 hgrow5 hW1 hW2 xc0 xc1)))
        all_goals
          have HD := hide hDn
          clear hDn yc0 yc1 yf0 yf1
          go_wp2
          go_roundw
          case rel => exact ⟨k + 1, by omega, by go_num, ⟨_, _, HD.out.1⟩, HD.out.2⟩
          case measure => simp [intOf]; omega
      · have hlt' := fun h => hlt ((HC.out k).2 h)
        obtain rfl : k = n := by omega
        go_wp2
        go_ret
        exact ⟨rfl, ⟨v1, v2, hR⟩, hb⟩

end Go.Proofs.Ytngaecfainhjcaa.A
