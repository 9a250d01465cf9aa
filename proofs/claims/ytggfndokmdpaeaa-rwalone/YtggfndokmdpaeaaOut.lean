/-
  What the document's out comes to.
-/
import Derived.Test.YtggfndokmdpaeaaWant
import Derived.Test.YtggfndokmdpaeaaLast
namespace Go.Proofs.Ytggfndokmdpaeaa
open Go.RowKit

/-- What three cells hold when three values are laid there. -/
def Sets3 (W : World) (b : Nat) (x y z : Value) : Prop :=
  (W.setCell ⟨b, 0, none⟩ x).cell? ⟨b, 0, none⟩ = some x ∧ ((W.setCell ⟨b, 0, none⟩ x).setCell ⟨b, 1, none⟩ y).cell? ⟨b, 1, none⟩ = some y ∧ (((W.setCell ⟨b, 0, none⟩ x).setCell ⟨b, 1, none⟩ y).setCell ⟨b, 2, none⟩ z).cell? ⟨b, 2, none⟩ = some z ∧
    (((W.setCell ⟨b, 0, none⟩ x).setCell ⟨b, 1, none⟩ y).setCell ⟨b, 2, none⟩ z).cell? ⟨b, 0, none⟩ = some x ∧ (((W.setCell ⟨b, 0, none⟩ x).setCell ⟨b, 1, none⟩ y).setCell ⟨b, 2, none⟩ z).cell? ⟨b, 1, none⟩ = some y
theorem sets3 {W : World} {b : Nat} {p q r : Value} {T : TypeId} (h : W.heap[b]? = some (.cells #[p, q, r] T (0, 0))) (x y z : Value) : Sets3 W b x y z := by
  have h1 := Lib.heap_setCell_same (i := 0) h x
  have h2 := Lib.heap_setCell_same (i := 1) h1 y
  have h3 := Lib.heap_setCell_same (i := 2) h2 z
  exact ⟨Lib.cell_of_heap h1 0, Lib.cell_of_heap h2 1, Lib.cell_of_heap h3 2, Lib.cell_of_heap h3 0, Lib.cell_of_heap h3 1⟩
theorem left_of {A R : Prop} (h : A ∧ R) : A := h.1
theorem fin_out {w wr w4 : World} {R base : Nat} {u u' : Value} {l l2 : List Wn} (h : AtR w R base u l) (hbs : base ≤ w.heap.size) (hb0 : Below w.heap.size w wr) (hz : w.heap.size < wr.heap.size) (hb : Below wr.heap.size wr w4) (ho : w4.ownsRow wr.heap.size 61 3 u' l2.length (cO l2)) (x y z : Value) :
    NowR R base u l2 w ((((w4.setCell ⟨R, 0, none⟩ u').setCell ⟨w.heap.size, 0, none⟩ x).setCell ⟨w.heap.size, 1, none⟩ y).setCell ⟨w.heap.size, 2, none⟩ z) := by
  obtain ⟨u2, k1, k2, k3⟩ := fin_row2 h hbs hb0 hb ho
  have hRl := h.lt
  have k1' : AtR (w4.setCell ⟨R, 0, none⟩ u') R base u' l2 := (((h.below hb0).below hb).setRow (owns_base ho (Nat.le_trans hbs hb0.size)))
  have hm : Mov (fun j => j = w.heap.size) (w4.setCell ⟨R, 0, none⟩ u') ((((w4.setCell ⟨R, 0, none⟩ u').setCell ⟨w.heap.size, 0, none⟩ x).setCell ⟨w.heap.size, 1, none⟩ y).setCell ⟨w.heap.size, 2, none⟩ z) :=
    (((Mov.refl (fun j => j = w.heap.size) _).set (p := ⟨w.heap.size, 0, none⟩) rfl x).set (p := ⟨w.heap.size, 1, none⟩) rfl y).set (p := ⟨w.heap.size, 2, none⟩) rfl z
  refine ⟨u', k1'.keep fun j hj => hm.block j (k1'.mine_lt hj) ?_, k2.thn hm (fun i hi => Or.inl (Nat.le_of_eq hi.symm)), fun j hj => ?_⟩
  · intro e
    rcases hj with q | q
    · omega
    · have := (ho.lt j q).1; omega
  · have := (ho.lt j hj).1; omega

set_option maxRecDepth 20000 in
set_option maxHeartbeats 4000000 in
set_option linter.unusedSimpArgs false in
theorem out_last (R base g k : Nat) (l : List Wn) (hl : (k + 1) ≤ 1000) (_hk : k < (k + 1)) (hL : Hid (l.length = (k + 1))) (_hac : (k + 1) ≤ (k + 1)) (_hmx : (k + 1) ≤ 9223372036854775807) (w : World)
    (hR : AtR w R base (.slice (some ⟨g, 0, none⟩) (k + 1) (k + 1)) l) (hbs : base ≤ w.heap.size) (X : Int) (Y Z : Bool) (p0 : w.cell? ⟨g, k * 3, none⟩ = some (.int .i64 X)) (p1 : w.cell? ⟨g, k * 3 + 1, none⟩ = some (.bool Y)) (p2 : w.cell? ⟨g, k * 3 + 2, none⟩ = some (.bool Z)) :
    Calls Try.prog 33 #[.pointer (some ⟨R, 0, none⟩), .int .i64 (k : Int)] w fun e w' => e = .returned (.agg #[.int .i64 X, .bool Y, .bool Z]) ∧ NowR R base (.slice (some ⟨g, 0, none⟩) (k + 1) (k + 1)) (lessO l k) w w' := by
  have HR := hide hR
  have hgl : g < w.heap.size := hR.mine_lt (Or.inr rfl)
  obtain ⟨c0, cf⟩ := hR.cells
  have hrow := hR.row
  have hRl0 := hR.lt
  have i0 : (0 : Int) ≤ (k : Int) := by omega
  have i1 : (k : Int) < (((k + 1) : Nat) : Int) := by omega
  have HT : Hid ((l.take k).length = k) := by show _ = _; rw [List.length_take, hL.out]; omega
  have HD : Hid ((l.drop (k + 1)).length = 0) := by show _ = _; rw [List.length_drop, hL.out] <;> omega
  have HF0 : Hid ((l.take k ++ l.drop (k + 1)).length = k + (0)) := by show _ = _; rw [List.length_append, HT.out, HD.out]
  have hZ0 := hide (owns_rowO (a := some ⟨g, 0, none⟩) (c := (k + 1)) (l := l) (by rw [hL.out] at hrow ⊢; exact hrow))
  obtain ⟨wr, hwr⟩ : ∃ wr, wr = (w.alloc (.cells #[.int .i64 0, .bool false, .bool false] 61)).alloc (.cells #[.int .i64 X, .bool Y, .bool Z] 61) := ⟨_, rfl⟩
  have hB0 : Below w.heap.size w wr := by rw [hwr]; exact (below1 w _).alloc (by simp) _
  have hz0 : wr.heap.size = w.heap.size + 1 + 1 := by rw [hwr]; simp
  have HO1 : Hid (∀ W', Below wr.heap.size wr W' → W'.cell? ⟨w.heap.size + 1, 0, none⟩ = some (.int .i64 X) ∧ W'.cell? ⟨w.heap.size + 1, 1, none⟩ = some (.bool Y) ∧ W'.cell? ⟨w.heap.size + 1, 2, none⟩ = some (.bool Z)) := hide fun W' q => by
    have hb : wr.heap[w.heap.size + 1]? = some (.cells #[.int .i64 X, .bool Y, .bool Z] 61 (0, 0)) := by
      rw [hwr]
      have := heap_alloc_new (w.alloc (.cells #[.int .i64 0, .bool false, .bool false] 61)) (.cells #[.int .i64 X, .bool Y, .bool Z] 61)
      simpa using this
    have hb2 := (q.block (w.heap.size + 1) (by omega)).trans hb
    exact ⟨Lib.cell_of_heap hb2 0, Lib.cell_of_heap hb2 1, Lib.cell_of_heap hb2 2⟩
  have HO0 : Hid (∀ W', Below wr.heap.size wr W' → W'.cell? ⟨w.heap.size, 0, none⟩ = some (.int .i64 0) ∧ W'.cell? ⟨w.heap.size, 1, none⟩ = some (.bool false) ∧ W'.cell? ⟨w.heap.size, 2, none⟩ = some (.bool false) ∧ (∀ j, W'.frozen? ⟨w.heap.size, j, none⟩ = false) ∧ W'.heap[w.heap.size]? = some (.cells #[.int .i64 0, .bool false, .bool false] 61 (0, 0))) := hide fun W' q => by
    have hb : wr.heap[w.heap.size]? = some (.cells #[.int .i64 0, .bool false, .bool false] 61 (0, 0)) := by
      rw [hwr]
      exact (((below1 (w.alloc (.cells #[.int .i64 0, .bool false, .bool false] 61)) _).block w.heap.size (by simp)).trans (heap_alloc_new _ _))
    have hb2 := (q.block w.heap.size (by omega)).trans hb
    exact ⟨Lib.cell_of_heap hb2 0, Lib.cell_of_heap hb2 1, Lib.cell_of_heap hb2 2, fun j => Lib.frozen_of_heap hb2 j, hb2⟩
  have HRr := hide (hR.below hB0)
  have HB0 := hide hB0
  have HZ0 := hide hz0
  clear hR cf hrow hB0 hz0
  go_enter Try.func33, Try.ntmps33
  go_wp2_with fail
  rw [← hwr]
  clear hwr p0 p1 p2
  have d1 : w.heap.size + 1 < wr.heap.size := by rw [HZ0.out]; omega
  have hRl := HRr.out.lt
  have q1 : IntKind.i64.wrap ((k : Int) + 1) = (k : Int) + 1 := wrapB (by omega)
  have q2 : ((k : Int) + 1).toNat = k + 1 := by omega
  have q3 : (k : Int) ≤ (((k + 1) : Nat) : Int) := by omega
  have q4 : (k : Int) + 1 ≤ (((k + 1) : Nat) : Int) := by omega
  have q5 : (0 : Int) ≤ (k : Int) + 1 := by omega
  have q6 : (k : Int) ≤ (k : Int) + 1 := by omega
  have HS : Hid (∀ W', Below wr.heap.size wr W' → Below wr.heap.size wr W' ∧ W'.cell? ⟨R, 0, none⟩ = some (.slice (some ⟨g, 0, none⟩) (k + 1) (k + 1))) := hide fun W' q => ⟨q, (HRr.out.below q).cells.1⟩
  have hZ := hide (hZ0.out.below HB0.out)
  have HZ1 : Hid (RowO wr (some ⟨g, 0, none⟩) (l.take k)) := hide (take_o hZ.out (by rw [hL.out]; omega) k)
  have HZ2 : Hid (RowO wr (some ⟨g, 0, none⟩) (l.drop (k + 1))) := fun hn => absurd (List.length_eq_zero_iff.1 HD.out) hn
  have E1 := hide (lit0O wr).drew
  have fin : Hid (∀ a4 c4 w4, Below wr.heap.size wr w4 → w4.ownsRow wr.heap.size 61 3 (.slice a4 (k + (0)) c4) (k + (0)) (cO (l.take k ++ l.drop (k + 1))) → w4.heap[w.heap.size]? = some (.cells #[.int .i64 0, .bool false, .bool false] 61 (0, 0)) → NowR R base (.slice (some ⟨g, 0, none⟩) (k + 1) (k + 1)) (lessO l k) w ((((w4.setCell ⟨R, 0, none⟩ (.slice a4 (k + (0)) c4)).setCell ⟨w.heap.size, 0, none⟩ (.int .i64 X)).setCell ⟨w.heap.size, 1, none⟩ (.bool Y)).setCell ⟨w.heap.size, 2, none⟩ (.bool Z)) ∧ Sets3 (w4.setCell ⟨R, 0, none⟩ (.slice a4 (k + (0)) c4)) w.heap.size (.int .i64 X) (.bool Y) (.bool Z)) := hide fun a4 c4 w4 hb4 ho4 hd4 =>
    ⟨fin_out HR.out hbs HB0.out (by rw [HZ0.out]; omega) hb4 (by have := ho4; rw [← HF0.out] at this ⊢; exact this) _ _ _, sets3 ((Below.heap_setCell _ _ _ _ (by show w.heap.size ≠ R; omega)).trans hd4) _ _ _⟩
  have hRne : R ≠ w.heap.size := by omega
  have hRne1 : R ≠ w.heap.size + 1 := by omega
  clear hZ0 hgl c0
  refine wp_region_noPanic ?_
  refine wp_region_last_drew (L := 19) (S := fun w' => Below wr.heap.size wr w' ∧ w'.cell? ⟨R, 0, none⟩ = some (.slice (some ⟨g, 0, none⟩) (k + 1) (k + 1))) (by kernel_rfl) ?_ (fun hHeld => ?_)
  · exact HS.out _ (Below.refl _ _).drew
  refine wpAnyL_take (i := 0) (v := ?_) rfl (by kernel_rfl) (by kernel_rfl) (by kernel_rfl) (by kernel_rfl) (fun _ _ _ h => h) (Or.inl ⟨by rfl, ?_⟩) (by first | trivial | assumption) ?_
  rotate_left 1
  · (intro w hSw; (try dsimp only at hSw); go_simp; all_goals with_reducible rfl)
  try simp only [Act.put, List.setIfInBounds_toArray, List.set_cons_zero, List.set_cons_succ]
  refine wpAnyL_take (i := 2) (v := ?_) rfl (by kernel_rfl) (by kernel_rfl) (by kernel_rfl) (by kernel_rfl) (fun _ _ _ h => h) (Or.inl ⟨by rfl, ?_⟩) (by first | trivial | assumption) ?_
  rotate_left 1
  · (intro w hSw; (try dsimp only at hSw); go_simp; all_goals with_reducible rfl)
  try simp only [Act.put, List.setIfInBounds_toArray, List.set_cons_zero, List.set_cons_succ]
  refine wpAnyL_take (i := 3) (v := ?_) rfl (by kernel_rfl) (by kernel_rfl) (by kernel_rfl) (by kernel_rfl) (fun _ _ _ h => h) (Or.inl ⟨by rfl, ?_⟩) (by first | trivial | assumption) ?_
  rotate_left 1
  · (intro w hSw; (try dsimp only at hSw); go_simp; all_goals with_reducible rfl)
  try simp only [Act.put, List.setIfInBounds_toArray, List.set_cons_zero, List.set_cons_succ]
  refine wpAnyL_take (i := 4) (v := ?_) rfl (by kernel_rfl) (by kernel_rfl) (by kernel_rfl) (by kernel_rfl) (fun _ _ _ h => h) (Or.inl ⟨by rfl, ?_⟩) (by first | trivial | assumption) ?_
  rotate_left 1
  · (intro w hSw; (try dsimp only at hSw); go_simp; all_goals with_reducible rfl)
  try simp only [Act.put, List.setIfInBounds_toArray, List.set_cons_zero, List.set_cons_succ]
  refine wpAnyL_take (i := 5) (v := ?_) rfl (by kernel_rfl) (by kernel_rfl) (by kernel_rfl) (by kernel_rfl) (fun _ _ _ h => h) (Or.inl ⟨by rfl, ?_⟩) (by first | trivial | assumption) ?_
  rotate_left 1
  · (intro w hSw; (try dsimp only at hSw); go_simp; all_goals with_reducible rfl)
  try simp only [Act.put, List.setIfInBounds_toArray, List.set_cons_zero, List.set_cons_succ]
  refine wpAnyL_take (i := 6) (v := ?_) rfl (by kernel_rfl) (by kernel_rfl) (by kernel_rfl) (by kernel_rfl) (fun _ _ _ h => h) (Or.inl ⟨by rfl, ?_⟩) (by first | trivial | assumption) ?_
  rotate_left 1
  · (intro w hSw; (try dsimp only at hSw); go_simp; all_goals with_reducible rfl)
  try simp only [Act.put, List.setIfInBounds_toArray, List.set_cons_zero, List.set_cons_succ]
  refine wpAnyL_take (i := 7) (v := ?_) rfl (by kernel_rfl) (by kernel_rfl) (by kernel_rfl) (by kernel_rfl) (fun _ _ _ h => h) (Or.inl ⟨by rfl, ?_⟩) (by first | trivial | assumption) ?_
  rotate_left 1
  · (intro w hSw; (try dsimp only at hSw); go_simp; all_goals with_reducible rfl)
  try simp only [Act.put, List.setIfInBounds_toArray, List.set_cons_zero, List.set_cons_succ]
  refine wpAnyL_take (i := 9) (v := ?_) rfl (by kernel_rfl) (by kernel_rfl) (by kernel_rfl) (by kernel_rfl) (fun _ _ _ h => h) (Or.inl ⟨by rfl, ?_⟩) (by first | trivial | assumption) ?_
  rotate_left 1
  · (intro w hSw; (try dsimp only at hSw); go_simp; all_goals with_reducible rfl)
  try simp only [Act.put, List.setIfInBounds_toArray, List.set_cons_zero, List.set_cons_succ]
  refine wpAnyL_take (i := 10) (v := ?_) rfl (by kernel_rfl) (by kernel_rfl) (by kernel_rfl) (by kernel_rfl) (fun _ _ _ h => h) (Or.inl ⟨by rfl, ?_⟩) (by first | trivial | assumption) ?_
  rotate_left 1
  · (intro w hSw; (try dsimp only at hSw); go_simp; all_goals with_reducible rfl)
  try simp only [Act.put, List.setIfInBounds_toArray, List.set_cons_zero, List.set_cons_succ]
  refine wpAnyL_take (i := 11) (v := ?_) rfl (by kernel_rfl) (by kernel_rfl) (by kernel_rfl) (by kernel_rfl) (fun _ _ _ h => h) (Or.inl ⟨by rfl, ?_⟩) (by first | trivial | assumption) ?_
  rotate_left 1
  · (intro w hSw; (try dsimp only at hSw); go_simp; all_goals with_reducible rfl)
  try simp only [Act.put, List.setIfInBounds_toArray, List.set_cons_zero, List.set_cons_succ]
  refine wpAnyL_take (i := 12) (v := ?_) rfl (by kernel_rfl) (by kernel_rfl) (by kernel_rfl) (by kernel_rfl) (fun _ _ _ h => h) (Or.inl ⟨by rfl, ?_⟩) (by first | trivial | assumption) ?_
  rotate_left 1
  · (intro w hSw; (try dsimp only at hSw); go_simp; all_goals with_reducible rfl)
  try simp only [Act.put, List.setIfInBounds_toArray, List.set_cons_zero, List.set_cons_succ]
  refine wpAnyL_take (i := 13) (v := ?_) rfl (by kernel_rfl) (by kernel_rfl) (by kernel_rfl) (by kernel_rfl) (fun _ _ _ h => h) (Or.inl ⟨by rfl, ?_⟩) (by first | trivial | assumption) ?_
  rotate_left 1
  · (intro w hSw; (try dsimp only at hSw); go_simp; all_goals with_reducible rfl)
  try simp only [Act.put, List.setIfInBounds_toArray, List.set_cons_zero, List.set_cons_succ]
  refine wpAnyL_take (i := 14) (v := ?_) rfl (by kernel_rfl) (by kernel_rfl) (by kernel_rfl) (by kernel_rfl) (fun _ _ _ h => h) (Or.inl ⟨by rfl, ?_⟩) (by first | trivial | assumption) ?_
  rotate_left 1
  · (intro w hSw; (try dsimp only at hSw); go_simp; all_goals with_reducible rfl)
  try simp only [Act.put, List.setIfInBounds_toArray, List.set_cons_zero, List.set_cons_succ]
  refine wpAnyL_take (i := 15) (v := ?_) rfl (by kernel_rfl) (by kernel_rfl) (by kernel_rfl) (by kernel_rfl) (fun _ _ _ h => h) (Or.inl ⟨by rfl, ?_⟩) (by first | trivial | assumption) ?_
  rotate_left 1
  · (intro w hSw; (try dsimp only at hSw); go_simp; all_goals with_reducible rfl)
  try simp only [Act.put, List.setIfInBounds_toArray, List.set_cons_zero, List.set_cons_succ]
  refine wpAnyL_ready (rs := [1]) (by kernel_rfl) (by simp) ?_
  refine AllReadyL.cons rfl (fun K hK => ?_) ?_
  · go_simp
    refine hK.out _ _ ?_ (fun hHeld => ?_)
    · (first | assumption | exact HS.out _ hB6 | exact HS.out _ hB5 | (refine HS.out _ ?_; repeat (first | assumption | exact Below.refl _ _ | refine Below.alloc ?_ (by first | omega | (simp <;> omega)) _ | refine Below.drew ?_)))
    clear hK K
    try simp only [Act.put, List.setIfInBounds_toArray, List.set_cons_zero, List.set_cons_succ]
    refine wpAnyL_ready (rs := [8]) (by kernel_rfl) (by simp) ?_
    refine AllReadyL.cons rfl (fun K hK => ?_) ?_
    · (refine step_copy_o _ (by rfl) _ _ (by rfl) wr.heap.size _ (by rfl) E1.out (some ⟨g, 0, none⟩) k (k + 1) (l.take k) (by rfl) HT.out (HZ1.out.below (left_of hHeld)) (by omega) (by simp) ?_; intro a5 c5 w5 hown5 hgrow5; have hB5 : Below wr.heap.size wr w5 := below_ownO (left_of hHeld) E1.out hgrow5; have hz5 := hB5.size)
      refine hK.out _ _ ?_ (fun hHeld => ?_)
      · (first | assumption | exact HS.out _ hB6 | exact HS.out _ hB5 | (refine HS.out _ ?_; repeat (first | assumption | exact Below.refl _ _ | refine Below.alloc ?_ (by first | omega | (simp <;> omega)) _ | refine Below.drew ?_)))
      clear hK K
      try simp only [Act.put, List.setIfInBounds_toArray, List.set_cons_zero, List.set_cons_succ]
      refine wpAnyL_ready (rs := [16]) (by kernel_rfl) (by simp) ?_
      refine AllReadyL.cons rfl (fun K hK => ?_) ?_
      · (refine step_append_o _ (by rfl) _ _ (by rfl) wr.heap.size _ k (l.take k) (by rfl) hown5 (some ⟨g, 0, none⟩) (0) (0) (l.drop (k + 1)) (by rfl) HD.out (HZ2.out.below hB5) (by omega) (by exact hz5) ?_; intro a6 c6 w6 hown6 hgrow6 _; have hB6 : Below wr.heap.size wr w6 := below_ownO hB5 hown5 hgrow6; obtain ⟨rc6, rf6'⟩ := (HRr.out.below hB6).cells; have rf6 := rf6' 0; have hRl6 : R < w6.heap.size := Nat.lt_of_lt_of_le hRl hB6.size; clear rf6'; obtain ⟨o0, o1, o2⟩ := HO1.out _ hB6; obtain ⟨y0, y1, y2, y3, y4⟩ := HO0.out _ hB6; have Y4 := hide y4; clear y4)
        refine hK.out _ _ ?_ (fun hHeld => ?_)
        · (first | assumption | exact HS.out _ hB6 | exact HS.out _ hB5 | (refine HS.out _ ?_; repeat (first | assumption | exact Below.refl _ _ | refine Below.alloc ?_ (by first | omega | (simp <;> omega)) _ | refine Below.drew ?_)))
        clear hK K
        try simp only [Act.put, List.setIfInBounds_toArray, List.set_cons_zero, List.set_cons_succ]
        refine wpAnyL_ready (rs := [17]) (by kernel_rfl) (by simp) ?_
        refine AllReadyL.cons rfl (fun K hK => ?_) ?_
        · go_simp
          refine hK.out _ _ ?_ (fun hHeld => ?_)
          · (first | assumption | exact HS.out _ hB6 | exact HS.out _ hB5 | (refine HS.out _ ?_; repeat (first | assumption | exact Below.refl _ _ | refine Below.alloc ?_ (by first | omega | (simp <;> omega)) _ | refine Below.drew ?_)))
          clear hK K
          try simp only [Act.put, List.setIfInBounds_toArray, List.set_cons_zero, List.set_cons_succ]
          refine wpAnyL_take (i := 18) (v := ?_) rfl (by kernel_rfl) (by kernel_rfl) (by kernel_rfl) (by kernel_rfl) (fun _ _ _ h => h) (Or.inl ⟨by rfl, ?_⟩) (by first | trivial | assumption) ?_
          rotate_left 1
          · (intro w hSw; (try dsimp only at hSw); go_simp; all_goals with_reducible rfl)
          try simp only [Act.put, List.setIfInBounds_toArray, List.set_cons_zero, List.set_cons_succ]
          refine wpAnyL_ready (rs := [19]) (by kernel_rfl) (by simp) ?_
          refine AllReadyL.last rfl (fun K hK => ?_)
          go_simp
          refine hK.out _ _ ?_
          clear hK K
          try simp only [Act.put, List.setIfInBounds_toArray, List.set_cons_zero, List.set_cons_succ]
          refine wpAnyL_done (by kernel_rfl) ?_ _
          (refine NoPanic.normal ?_; (obtain ⟨hF, f0, f1, f2, f3, f4⟩ := fin.out _ _ _ hB6 hown6 Y4.out); have HF := hide hF; clear hF Y4; (try simp only [Nat.add_zero] at f0 f1 f2 f3 f4); clear hown5 hgrow5 hown6 hgrow6 hB5 hz5 hHeld E1; go_wp2; exact bodyPost_ret (v := .agg #[.int .i64 X, .bool Y, .bool Z]) (by simp [results, Try.results33, go_sem, f0, f1, f2, f3, f4]) rfl ⟨rfl, HF.out⟩)
        exact AllReadyL.nil
      exact AllReadyL.nil
    exact AllReadyL.nil
  exact AllReadyL.nil

set_option maxRecDepth 20000 in
set_option maxHeartbeats 4000000 in
set_option linter.unusedSimpArgs false in
theorem out_mid (R base g ac L k : Nat) (hne : ac ≠ k + 1) (l : List Wn) (hl : L ≤ 1000) (hk : k < L) (hL : Hid (l.length = L)) (hac : L ≤ ac) (hmx : ac ≤ 9223372036854775807) (w : World)
    (hR : AtR w R base (.slice (some ⟨g, 0, none⟩) L ac) l) (hbs : base ≤ w.heap.size) (X : Int) (Y Z : Bool) (p0 : w.cell? ⟨g, k * 3, none⟩ = some (.int .i64 X)) (p1 : w.cell? ⟨g, k * 3 + 1, none⟩ = some (.bool Y)) (p2 : w.cell? ⟨g, k * 3 + 2, none⟩ = some (.bool Z)) :
    Calls Try.prog 33 #[.pointer (some ⟨R, 0, none⟩), .int .i64 (k : Int)] w fun e w' => e = .returned (.agg #[.int .i64 X, .bool Y, .bool Z]) ∧ NowR R base (.slice (some ⟨g, 0, none⟩) L ac) (lessO l k) w w' := by
  have HR := hide hR
  have hgl : g < w.heap.size := hR.mine_lt (Or.inr rfl)
  obtain ⟨c0, cf⟩ := hR.cells
  have hrow := hR.row
  have hRl0 := hR.lt
  have i0 : (0 : Int) ≤ (k : Int) := by omega
  have i1 : (k : Int) < ((L : Nat) : Int) := by omega
  have HT : Hid ((l.take k).length = k) := by show _ = _; rw [List.length_take, hL.out]; omega
  have HD : Hid ((l.drop (k + 1)).length = L - (k + 1)) := by show _ = _; rw [List.length_drop, hL.out] <;> omega
  have HF0 : Hid ((l.take k ++ l.drop (k + 1)).length = k + (L - (k + 1))) := by show _ = _; rw [List.length_append, HT.out, HD.out]
  have hZ0 := hide (owns_rowO (a := some ⟨g, 0, none⟩) (c := ac) (l := l) (by rw [hL.out] at hrow ⊢; exact hrow))
  obtain ⟨wr, hwr⟩ : ∃ wr, wr = (w.alloc (.cells #[.int .i64 0, .bool false, .bool false] 61)).alloc (.cells #[.int .i64 X, .bool Y, .bool Z] 61) := ⟨_, rfl⟩
  have hB0 : Below w.heap.size w wr := by rw [hwr]; exact (below1 w _).alloc (by simp) _
  have hz0 : wr.heap.size = w.heap.size + 1 + 1 := by rw [hwr]; simp
  have HO1 : Hid (∀ W', Below wr.heap.size wr W' → W'.cell? ⟨w.heap.size + 1, 0, none⟩ = some (.int .i64 X) ∧ W'.cell? ⟨w.heap.size + 1, 1, none⟩ = some (.bool Y) ∧ W'.cell? ⟨w.heap.size + 1, 2, none⟩ = some (.bool Z)) := hide fun W' q => by
    have hb : wr.heap[w.heap.size + 1]? = some (.cells #[.int .i64 X, .bool Y, .bool Z] 61 (0, 0)) := by
      rw [hwr]
      have := heap_alloc_new (w.alloc (.cells #[.int .i64 0, .bool false, .bool false] 61)) (.cells #[.int .i64 X, .bool Y, .bool Z] 61)
      simpa using this
    have hb2 := (q.block (w.heap.size + 1) (by omega)).trans hb
    exact ⟨Lib.cell_of_heap hb2 0, Lib.cell_of_heap hb2 1, Lib.cell_of_heap hb2 2⟩
  have HO0 : Hid (∀ W', Below wr.heap.size wr W' → W'.cell? ⟨w.heap.size, 0, none⟩ = some (.int .i64 0) ∧ W'.cell? ⟨w.heap.size, 1, none⟩ = some (.bool false) ∧ W'.cell? ⟨w.heap.size, 2, none⟩ = some (.bool false) ∧ (∀ j, W'.frozen? ⟨w.heap.size, j, none⟩ = false) ∧ W'.heap[w.heap.size]? = some (.cells #[.int .i64 0, .bool false, .bool false] 61 (0, 0))) := hide fun W' q => by
    have hb : wr.heap[w.heap.size]? = some (.cells #[.int .i64 0, .bool false, .bool false] 61 (0, 0)) := by
      rw [hwr]
      exact (((below1 (w.alloc (.cells #[.int .i64 0, .bool false, .bool false] 61)) _).block w.heap.size (by simp)).trans (heap_alloc_new _ _))
    have hb2 := (q.block w.heap.size (by omega)).trans hb
    exact ⟨Lib.cell_of_heap hb2 0, Lib.cell_of_heap hb2 1, Lib.cell_of_heap hb2 2, fun j => Lib.frozen_of_heap hb2 j, hb2⟩
  have HRr := hide (hR.below hB0)
  have HB0 := hide hB0
  have HZ0 := hide hz0
  clear hR cf hrow hB0 hz0
  go_enter Try.func33, Try.ntmps33
  go_wp2_with fail
  rw [← hwr]
  clear hwr p0 p1 p2
  have d1 : w.heap.size + 1 < wr.heap.size := by rw [HZ0.out]; omega
  have hRl := HRr.out.lt
  have q1 : IntKind.i64.wrap ((k : Int) + 1) = (k : Int) + 1 := wrapB (by omega)
  have q2 : ((k : Int) + 1).toNat = k + 1 := by omega
  have q3 : (k : Int) ≤ ((ac : Nat) : Int) := by omega
  have q4 : (k : Int) + 1 ≤ ((L : Nat) : Int) := by omega
  have q5 : (0 : Int) ≤ (k : Int) + 1 := by omega
  have q6 : (k : Int) ≤ (k : Int) + 1 := by omega
  have HS : Hid (∀ W', Below wr.heap.size wr W' → Below wr.heap.size wr W' ∧ W'.cell? ⟨R, 0, none⟩ = some (.slice (some ⟨g, 0, none⟩) L ac)) := hide fun W' q => ⟨q, (HRr.out.below q).cells.1⟩
  have hZ := hide (hZ0.out.below HB0.out)
  have HZ1 : Hid (RowO wr (some ⟨g, 0, none⟩) (l.take k)) := hide (take_o hZ.out (by rw [hL.out]; omega) k)
  have HZ2 : Hid (RowO wr (some ⟨g, (k + 1) * 3, none⟩) (l.drop (k + 1))) := by have := drop_o hZ.out (k + 1) (by rw [hL.out]; omega) (by rw [hL.out]; omega); rw [Nat.zero_add] at this; exact this
  have E1 := hide (lit0O wr).drew
  have fin : Hid (∀ a4 c4 w4, Below wr.heap.size wr w4 → w4.ownsRow wr.heap.size 61 3 (.slice a4 (k + (L - (k + 1))) c4) (k + (L - (k + 1))) (cO (l.take k ++ l.drop (k + 1))) → w4.heap[w.heap.size]? = some (.cells #[.int .i64 0, .bool false, .bool false] 61 (0, 0)) → NowR R base (.slice (some ⟨g, 0, none⟩) L ac) (lessO l k) w ((((w4.setCell ⟨R, 0, none⟩ (.slice a4 (k + (L - (k + 1))) c4)).setCell ⟨w.heap.size, 0, none⟩ (.int .i64 X)).setCell ⟨w.heap.size, 1, none⟩ (.bool Y)).setCell ⟨w.heap.size, 2, none⟩ (.bool Z)) ∧ Sets3 (w4.setCell ⟨R, 0, none⟩ (.slice a4 (k + (L - (k + 1))) c4)) w.heap.size (.int .i64 X) (.bool Y) (.bool Z)) := hide fun a4 c4 w4 hb4 ho4 hd4 =>
    ⟨fin_out HR.out hbs HB0.out (by rw [HZ0.out]; omega) hb4 (by have := ho4; rw [← HF0.out] at this ⊢; exact this) _ _ _, sets3 ((Below.heap_setCell _ _ _ _ (by show w.heap.size ≠ R; omega)).trans hd4) _ _ _⟩
  have hRne : R ≠ w.heap.size := by omega
  have hRne1 : R ≠ w.heap.size + 1 := by omega
  clear hZ0 hgl c0
  refine wp_region_noPanic ?_
  refine wp_region_last_drew (L := 19) (S := fun w' => Below wr.heap.size wr w' ∧ w'.cell? ⟨R, 0, none⟩ = some (.slice (some ⟨g, 0, none⟩) L ac)) (by kernel_rfl) ?_ (fun hHeld => ?_)
  · exact HS.out _ (Below.refl _ _).drew
  refine wpAnyL_take (i := 0) (v := ?_) rfl (by kernel_rfl) (by kernel_rfl) (by kernel_rfl) (by kernel_rfl) (fun _ _ _ h => h) (Or.inl ⟨by rfl, ?_⟩) (by first | trivial | assumption) ?_
  rotate_left 1
  · (intro w hSw; (try dsimp only at hSw); go_simp; all_goals with_reducible rfl)
  try simp only [Act.put, List.setIfInBounds_toArray, List.set_cons_zero, List.set_cons_succ]
  refine wpAnyL_take (i := 2) (v := ?_) rfl (by kernel_rfl) (by kernel_rfl) (by kernel_rfl) (by kernel_rfl) (fun _ _ _ h => h) (Or.inl ⟨by rfl, ?_⟩) (by first | trivial | assumption) ?_
  rotate_left 1
  · (intro w hSw; (try dsimp only at hSw); go_simp; all_goals with_reducible rfl)
  try simp only [Act.put, List.setIfInBounds_toArray, List.set_cons_zero, List.set_cons_succ]
  refine wpAnyL_take (i := 3) (v := ?_) rfl (by kernel_rfl) (by kernel_rfl) (by kernel_rfl) (by kernel_rfl) (fun _ _ _ h => h) (Or.inl ⟨by rfl, ?_⟩) (by first | trivial | assumption) ?_
  rotate_left 1
  · (intro w hSw; (try dsimp only at hSw); go_simp; all_goals with_reducible rfl)
  try simp only [Act.put, List.setIfInBounds_toArray, List.set_cons_zero, List.set_cons_succ]
  refine wpAnyL_take (i := 4) (v := ?_) rfl (by kernel_rfl) (by kernel_rfl) (by kernel_rfl) (by kernel_rfl) (fun _ _ _ h => h) (Or.inl ⟨by rfl, ?_⟩) (by first | trivial | assumption) ?_
  rotate_left 1
  · (intro w hSw; (try dsimp only at hSw); go_simp; all_goals with_reducible rfl)
  try simp only [Act.put, List.setIfInBounds_toArray, List.set_cons_zero, List.set_cons_succ]
  refine wpAnyL_take (i := 5) (v := ?_) rfl (by kernel_rfl) (by kernel_rfl) (by kernel_rfl) (by kernel_rfl) (fun _ _ _ h => h) (Or.inl ⟨by rfl, ?_⟩) (by first | trivial | assumption) ?_
  rotate_left 1
  · (intro w hSw; (try dsimp only at hSw); go_simp; all_goals with_reducible rfl)
  try simp only [Act.put, List.setIfInBounds_toArray, List.set_cons_zero, List.set_cons_succ]
  refine wpAnyL_take (i := 6) (v := ?_) rfl (by kernel_rfl) (by kernel_rfl) (by kernel_rfl) (by kernel_rfl) (fun _ _ _ h => h) (Or.inl ⟨by rfl, ?_⟩) (by first | trivial | assumption) ?_
  rotate_left 1
  · (intro w hSw; (try dsimp only at hSw); go_simp; all_goals with_reducible rfl)
  try simp only [Act.put, List.setIfInBounds_toArray, List.set_cons_zero, List.set_cons_succ]
  refine wpAnyL_take (i := 7) (v := ?_) rfl (by kernel_rfl) (by kernel_rfl) (by kernel_rfl) (by kernel_rfl) (fun _ _ _ h => h) (Or.inl ⟨by rfl, ?_⟩) (by first | trivial | assumption) ?_
  rotate_left 1
  · (intro w hSw; (try dsimp only at hSw); go_simp; all_goals with_reducible rfl)
  try simp only [Act.put, List.setIfInBounds_toArray, List.set_cons_zero, List.set_cons_succ]
  refine wpAnyL_take (i := 9) (v := ?_) rfl (by kernel_rfl) (by kernel_rfl) (by kernel_rfl) (by kernel_rfl) (fun _ _ _ h => h) (Or.inl ⟨by rfl, ?_⟩) (by first | trivial | assumption) ?_
  rotate_left 1
  · (intro w hSw; (try dsimp only at hSw); go_simp; all_goals with_reducible rfl)
  try simp only [Act.put, List.setIfInBounds_toArray, List.set_cons_zero, List.set_cons_succ]
  refine wpAnyL_take (i := 10) (v := ?_) rfl (by kernel_rfl) (by kernel_rfl) (by kernel_rfl) (by kernel_rfl) (fun _ _ _ h => h) (Or.inl ⟨by rfl, ?_⟩) (by first | trivial | assumption) ?_
  rotate_left 1
  · (intro w hSw; (try dsimp only at hSw); go_simp; all_goals with_reducible rfl)
  try simp only [Act.put, List.setIfInBounds_toArray, List.set_cons_zero, List.set_cons_succ]
  refine wpAnyL_take (i := 11) (v := ?_) rfl (by kernel_rfl) (by kernel_rfl) (by kernel_rfl) (by kernel_rfl) (fun _ _ _ h => h) (Or.inl ⟨by rfl, ?_⟩) (by first | trivial | assumption) ?_
  rotate_left 1
  · (intro w hSw; (try dsimp only at hSw); go_simp; all_goals with_reducible rfl)
  try simp only [Act.put, List.setIfInBounds_toArray, List.set_cons_zero, List.set_cons_succ]
  refine wpAnyL_take (i := 12) (v := ?_) rfl (by kernel_rfl) (by kernel_rfl) (by kernel_rfl) (by kernel_rfl) (fun _ _ _ h => h) (Or.inl ⟨by rfl, ?_⟩) (by first | trivial | assumption) ?_
  rotate_left 1
  · (intro w hSw; (try dsimp only at hSw); go_simp; all_goals with_reducible rfl)
  try simp only [Act.put, List.setIfInBounds_toArray, List.set_cons_zero, List.set_cons_succ]
  refine wpAnyL_take (i := 13) (v := ?_) rfl (by kernel_rfl) (by kernel_rfl) (by kernel_rfl) (by kernel_rfl) (fun _ _ _ h => h) (Or.inl ⟨by rfl, ?_⟩) (by first | trivial | assumption) ?_
  rotate_left 1
  · (intro w hSw; (try dsimp only at hSw); go_simp; all_goals with_reducible rfl)
  try simp only [Act.put, List.setIfInBounds_toArray, List.set_cons_zero, List.set_cons_succ]
  refine wpAnyL_take (i := 14) (v := ?_) rfl (by kernel_rfl) (by kernel_rfl) (by kernel_rfl) (by kernel_rfl) (fun _ _ _ h => h) (Or.inl ⟨by rfl, ?_⟩) (by first | trivial | assumption) ?_
  rotate_left 1
  · (intro w hSw; (try dsimp only at hSw); go_simp; all_goals with_reducible rfl)
  try simp only [Act.put, List.setIfInBounds_toArray, List.set_cons_zero, List.set_cons_succ]
  refine wpAnyL_take (i := 15) (v := ?_) rfl (by kernel_rfl) (by kernel_rfl) (by kernel_rfl) (by kernel_rfl) (fun _ _ _ h => h) (Or.inl ⟨by rfl, ?_⟩) (by first | trivial | assumption) ?_
  rotate_left 1
  · (intro w hSw; (try dsimp only at hSw); go_simp; all_goals with_reducible rfl)
  try simp only [Act.put, List.setIfInBounds_toArray, List.set_cons_zero, List.set_cons_succ]
  refine wpAnyL_ready (rs := [1]) (by kernel_rfl) (by simp) ?_
  refine AllReadyL.cons rfl (fun K hK => ?_) ?_
  · go_simp
    refine hK.out _ _ ?_ (fun hHeld => ?_)
    · (first | assumption | exact HS.out _ hB6 | exact HS.out _ hB5 | (refine HS.out _ ?_; repeat (first | assumption | exact Below.refl _ _ | refine Below.alloc ?_ (by first | omega | (simp <;> omega)) _ | refine Below.drew ?_)))
    clear hK K
    try simp only [Act.put, List.setIfInBounds_toArray, List.set_cons_zero, List.set_cons_succ]
    refine wpAnyL_ready (rs := [8]) (by kernel_rfl) (by simp) ?_
    refine AllReadyL.cons rfl (fun K hK => ?_) ?_
    · (refine step_copy_o _ (by rfl) _ _ (by rfl) wr.heap.size _ (by rfl) E1.out (some ⟨g, 0, none⟩) k ac (l.take k) (by rfl) HT.out (HZ1.out.below (left_of hHeld)) (by omega) (by simp) ?_; intro a5 c5 w5 hown5 hgrow5; have hB5 : Below wr.heap.size wr w5 := below_ownO (left_of hHeld) E1.out hgrow5; have hz5 := hB5.size)
      refine hK.out _ _ ?_ (fun hHeld => ?_)
      · (first | assumption | exact HS.out _ hB6 | exact HS.out _ hB5 | (refine HS.out _ ?_; repeat (first | assumption | exact Below.refl _ _ | refine Below.alloc ?_ (by first | omega | (simp <;> omega)) _ | refine Below.drew ?_)))
      clear hK K
      try simp only [Act.put, List.setIfInBounds_toArray, List.set_cons_zero, List.set_cons_succ]
      refine wpAnyL_ready (rs := [16]) (by kernel_rfl) (by simp) ?_
      refine AllReadyL.cons rfl (fun K hK => ?_) ?_
      · (refine step_append_o _ (by rfl) _ _ (by rfl) wr.heap.size _ k (l.take k) (by rfl) hown5 (some ⟨g, (k + 1) * 3, none⟩) (L - (k + 1)) (ac - (k + 1)) (l.drop (k + 1)) (by rfl) HD.out (HZ2.out.below hB5) (by omega) (by exact hz5) ?_; intro a6 c6 w6 hown6 hgrow6 _; have hB6 : Below wr.heap.size wr w6 := below_ownO hB5 hown5 hgrow6; obtain ⟨rc6, rf6'⟩ := (HRr.out.below hB6).cells; have rf6 := rf6' 0; have hRl6 : R < w6.heap.size := Nat.lt_of_lt_of_le hRl hB6.size; clear rf6'; obtain ⟨o0, o1, o2⟩ := HO1.out _ hB6; obtain ⟨y0, y1, y2, y3, y4⟩ := HO0.out _ hB6; have Y4 := hide y4; clear y4)
        refine hK.out _ _ ?_ (fun hHeld => ?_)
        · (first | assumption | exact HS.out _ hB6 | exact HS.out _ hB5 | (refine HS.out _ ?_; repeat (first | assumption | exact Below.refl _ _ | refine Below.alloc ?_ (by first | omega | (simp <;> omega)) _ | refine Below.drew ?_)))
        clear hK K
        try simp only [Act.put, List.setIfInBounds_toArray, List.set_cons_zero, List.set_cons_succ]
        refine wpAnyL_ready (rs := [17]) (by kernel_rfl) (by simp) ?_
        refine AllReadyL.cons rfl (fun K hK => ?_) ?_
        · go_simp
          refine hK.out _ _ ?_ (fun hHeld => ?_)
          · (first | assumption | exact HS.out _ hB6 | exact HS.out _ hB5 | (refine HS.out _ ?_; repeat (first | assumption | exact Below.refl _ _ | refine Below.alloc ?_ (by first | omega | (simp <;> omega)) _ | refine Below.drew ?_)))
          clear hK K
          try simp only [Act.put, List.setIfInBounds_toArray, List.set_cons_zero, List.set_cons_succ]
          refine wpAnyL_take (i := 18) (v := ?_) rfl (by kernel_rfl) (by kernel_rfl) (by kernel_rfl) (by kernel_rfl) (fun _ _ _ h => h) (Or.inl ⟨by rfl, ?_⟩) (by first | trivial | assumption) ?_
          rotate_left 1
          · (intro w hSw; (try dsimp only at hSw); go_simp; all_goals with_reducible rfl)
          try simp only [Act.put, List.setIfInBounds_toArray, List.set_cons_zero, List.set_cons_succ]
          refine wpAnyL_ready (rs := [19]) (by kernel_rfl) (by simp) ?_
          refine AllReadyL.last rfl (fun K hK => ?_)
          go_simp
          refine hK.out _ _ ?_
          clear hK K
          try simp only [Act.put, List.setIfInBounds_toArray, List.set_cons_zero, List.set_cons_succ]
          refine wpAnyL_done (by kernel_rfl) ?_ _
          (refine NoPanic.normal ?_; (obtain ⟨hF, f0, f1, f2, f3, f4⟩ := fin.out _ _ _ hB6 hown6 Y4.out); have HF := hide hF; clear hF Y4; (try simp only [Nat.add_zero] at f0 f1 f2 f3 f4); clear hown5 hgrow5 hown6 hgrow6 hB5 hz5 hHeld E1; go_wp2; exact bodyPost_ret (v := .agg #[.int .i64 X, .bool Y, .bool Z]) (by simp [results, Try.results33, go_sem, f0, f1, f2, f3, f4]) rfl ⟨rfl, HF.out⟩)
        exact AllReadyL.nil
      exact AllReadyL.nil
    exact AllReadyL.nil
  exact AllReadyL.nil

theorem out_any (R base : Nat) (u : Value) (l : List Wn) (hl : l.length ≤ 1000) (k : Nat) (hk : k < l.length) (w : World) (hR : AtR w R base u l) (hbs : base ≤ w.heap.size) :
    Calls Try.prog 33 #[.pointer (some ⟨R, 0, none⟩), .int .i64 (k : Int)] w fun e w' => e = .returned (.agg #[.int .i64 (wn l k).t, .bool (wn l k).w, .bool (wn l k).h]) ∧ NowR R base u (lessO l k) w w' := by
  obtain ⟨g, ac, rfl, _, _, hcell, hc, hmx⟩ := row_openO hR.row (by omega)
  unfold maxLen at hmx
  obtain ⟨p0, p1, p2⟩ := hcell k hk
  by_cases hne : ac = k + 1
  · subst hne
    have hL : l.length = k + 1 := by omega
    rw [hL] at hR ⊢
    exact out_last R base g k l (by omega) (by omega) hL (by omega) (by omega) w hR hbs _ _ _ p0 p1 p2
  · exact out_mid R base g ac l.length k hne l hl hk rfl hc (by omega) w hR hbs _ _ _ p0 p1 p2

end Go.Proofs.Ytggfndokmdpaeaa
