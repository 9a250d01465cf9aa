/-
  The program's words beside two rows of a law's own: what was put, and what was told last; and what the law's own write comes to.
-/
import Derived.Test.YthadcampbchihaaBoth
import Derived.Laws.CopyOwn
import Derived.Deep.DeepCutAuto
namespace Go.Proofs.Ythadcampbchihaa
open Go.RowKit

/-- What happened: nothing that a read would not find out. -/
def Step (s s2 : Ws) : Prop := s2.l.length = s.l.length ∧ s.e ≤ s2.e ∧ (s2.e = s.e → s2.wr = 0 → s.wr = 0 ∧ s2.l = s.l)
theorem Step.refl (s : Ws) : Step s s := ⟨rfl, Int.le_refl _, fun _ h => ⟨h, rfl⟩⟩
theorem step_beg (s : Ws) (t : Int) : Step s (begS s t) := by
  by_cases h : begE s t = 0
  · by_cases h1 : t < 1
    · rw [(beg_low h1).2]; exact Step.refl s
    · have e : begS s t = ⟨s.l, s.e, t⟩ := if_pos h
      rw [e]
      exact ⟨rfl, Int.le_refl _, fun _ (q : t = 0) => by omega⟩
  · rw [show begS s t = s from if_neg h]; exact Step.refl s
theorem step_end (s : Ws) (t : Int) : Step s (endS s t) := by
  by_cases h : endE s t = 0
  · rw [show endS s t = ⟨s.l, s.e + 1, 0⟩ from if_pos h]
    exact ⟨rfl, by show s.e ≤ s.e + 1; omega, fun (q : s.e + 1 = s.e) => by omega⟩
  · rw [show endS s t = s from if_neg h]; exact Step.refl s
theorem step_put (s : Ws) (t i v : Int) : Step s (putS s t i v) := by
  by_cases h1 : t < 1
  · rw [(put_low h1).2]; exact Step.refl s
  cases h2 : hasI s.l i
  · rw [(put_out h1 h2).2]; exact Step.refl s
  by_cases h3 : t = s.wr
  · rw [(put_ok h1 h2 h3).2]
    exact ⟨by simp, Int.le_refl _, fun _ (q : s.wr = 0) => by omega⟩
  · rw [(put_not h1 h2 h3).2]; exact Step.refl s

/-- A row of the law's own. -/
def RowL (w : World) (N : Nat) (l : List Int) : Prop := w.heap[N]? = some (.cells (cZ l).toArray 3 (0, 0))
theorem RowL.cell {w : World} {N : Nat} {l : List Int} (h : RowL w N l) {k : Nat} (hk : k < l.length) : w.cell? ⟨N, k, none⟩ = some (.int .i64 (gz l k)) ∧ w.frozen? ⟨N, k, none⟩ = false := by
  refine ⟨?_, Lib.frozen_of_heap h k⟩
  rw [Lib.cell_of_heap h k, List.getElem?_toArray, cZ_get l hk]
theorem RowL.z {w : World} {N : Nat} {l : List Int} (h : RowL w N l) : RowZ w (some ⟨N, 0, none⟩) l := fun _ => ⟨N, 0, rfl, (Array.getElem?_eq_some_iff.1 h).1, fun k hk => by rw [Nat.zero_add]; exact (h.cell hk).1⟩
theorem run_copy_z {w : World} {N T : Nat} {l tl : List Int} (hN : RowL w N l) (hT : RowL w T tl) (hl : tl.length = l.length) (ty : TypeId) :
    (Builtin.copy_ #[31, 31] ty #[.slice (some ⟨T, 0, none⟩) l.length l.length, .slice (some ⟨N, 0, none⟩) l.length l.length]).run Try.prog w = .ok (goInt l.length) (w.setRow T (cZ l).toArray) := by
  obtain ⟨i0, hi, hz0, hz1, hz2⟩ := info_parts info3
  have h := run_copy_row (P := Try.prog) w 31 31 ty 3 T 0 l.length l.length ⟨N, 0, none⟩ l.length l.length (cZ tl).toArray 3 (cZ l) Try.underlying31 (by rw [hi]; exact congrArg some hz1) hT (by rw [cZ_len]; exact (Nat.min_self _).symm)
    (fun j v hv => by
      have hj : j < l.length := by rw [← cZ_len]; exact (List.getElem?_eq_some_iff.1 hv).1
      rw [add_none, Nat.zero_add, (hN.cell hj).1, ← hv, cZ_get l hj]) (by simp [cZ_len, hl]) (cZ_ones l)
  rw [h, cZ_len]
  congr 2
  rw [List.drop_of_length_le (by simp [cZ_len, hl])]
  simp

structure RS (W0 : World) (M N T : Nat) (F : Nat → Prop) (s : Ws) (tl : List Int) (w : World) : Prop where
  n0 : W0.heap.size ≤ N
  t0 : W0.heap.size ≤ T
  nt : ¬ N = T
  f : ∀ k, F k → ¬ k = N ∧ ¬ k = T
  xs : Xs W0 M (fun k => F k ∨ k = N ∨ k = T) s w
  now : RowL w N s.l
  told : RowL w T tl
  len : tl.length = s.l.length
  same : s.wr = 0 → tl = s.l

section
variable {W0 w w' : World} {M N T k : Nat} {F G : Nat → Prop} {s s2 : Ws} {tl : List Int} {v : Int}
theorem RS.ltN (h : RS W0 M N T F s tl w) : N < w.heap.size ∧ ¬ N = M := h.xs.2.1.2 N (Or.inr (Or.inl rfl))
theorem RS.ltT (h : RS W0 M N T F s tl w) : T < w.heap.size ∧ ¬ T = M := h.xs.2.1.2 T (Or.inr (Or.inr rfl))
theorem RS.ltF (h : RS W0 M N T F s tl w) {j : Nat} (hj : F j) : j < w.heap.size ∧ ¬ j = M := h.xs.2.1.2 j (Or.inl hj)
theorem RS.low (h : RS W0 M N T F s tl w) : Below W0.heap.size W0 w := h.xs.2.2
theorem RS.below (h : RS W0 M N T F s tl w) (k : Below w.heap.size w w') : RS W0 M N T F s tl w' :=
  ⟨h.n0, h.t0, h.nt, h.f, h.xs.below k, (k.block N h.ltN.1).trans h.now, (k.block T h.ltT.1).trans h.told, h.len, h.same⟩
theorem RS.mono (h : RS W0 M N T F s tl w) (k : ∀ i, G i → F i) : RS W0 M N T G s tl w :=
  ⟨h.n0, h.t0, h.nt, fun i hi => h.f i (k i hi), h.xs.mono fun i hi => hi.imp (k i) id, h.now, h.told, h.len, h.same⟩
/-- More blocks that are none of these. -/
theorem RS.more (h : RS W0 M N T F s tl w) (k : ∀ i, G i → i < w.heap.size ∧ ¬ i = M ∧ ¬ i = N ∧ ¬ i = T) : RS W0 M N T G s tl w :=
  ⟨h.n0, h.t0, h.nt, fun i hi => (k i hi).2.2, ⟨h.xs.1, ⟨h.xs.2.1.1, fun i hi => by
    rcases hi with q | q | q
    · exact ⟨(k i q).1, (k i q).2.1⟩
    · rw [q]; exact h.ltN
    · rw [q]; exact h.ltT⟩, h.xs.2.2⟩, h.now, h.told, h.len, h.same⟩
theorem RS.boxed (h : RS W0 M N T F s tl w) (ob : Obj) : RS W0 M N T (fun k => F k ∨ k = w.heap.size) s tl (w.alloc ob) :=
  (h.below (below1 w ob)).more fun i hi => by
    have hM := h.xs.2.1.1.lt
    have hN := h.ltN.1
    have hT := h.ltT.1
    rcases hi with q | q
    · have h1 := h.ltF q
      have h2 := h.f i q
      exact ⟨by simp; omega, h1.2, h2⟩
    · subst q
      exact ⟨by simp, by omega, by omega, by omega⟩
theorem RS.call (h : RS W0 M N T F s tl w) (hx : Xs W0 M (fun k => F k ∨ k = N ∨ k = T) s2 w') (hk : Kept (fun k => F k ∨ k = N ∨ k = T) w w') (hl : s2.l = s.l) (hs : s2.wr = 0 → s.wr = 0) : RS W0 M N T F s2 tl w' ∧ Kept F w w' :=
  ⟨⟨h.n0, h.t0, h.nt, h.f, hx, by rw [hl]; exact (hk.1 N (Or.inr (Or.inl rfl))).trans h.now, (hk.1 T (Or.inr (Or.inr rfl))).trans h.told, by rw [hl]; exact h.len, fun q => by rw [hl]; exact h.same (hs q)⟩, hk.mono fun _ q => Or.inl q⟩
theorem Xs.far (h : Xs W0 M F s w) (hz : w'.heap.size = w.heap.size) (hM : w'.heap[M]? = w.heap[M]?) (hb : Below W0.heap.size W0 w') : Xs W0 M F s w' :=
  ⟨h.1, ⟨h.2.1.1.keep hM, fun k hk => ⟨by rw [hz]; exact (h.2.1.2 k hk).1, (h.2.1.2 k hk).2⟩⟩, hb⟩
/-- All words are told. -/
theorem RS.tell (h : RS W0 M N T F s tl w) (hx : Xs W0 M (fun k => F k ∨ k = N ∨ k = T) s2 w') (hk : Kept (fun k => F k ∨ k = N ∨ k = T) w w') (hl : s2.l = s.l) : RS W0 M N T F s2 s.l (w'.setRow T (cZ s.l).toArray) ∧ Kept F w (w'.setRow T (cZ s.l).toArray) := by
  have hT : RowL w' T tl := (hk.1 T (Or.inr (Or.inr rfl))).trans h.told
  have hN : RowL w' N s.l := (hk.1 N (Or.inr (Or.inl rfl))).trans h.now
  refine ⟨⟨h.n0, h.t0, h.nt, h.f, hx.far (by simp) (setRow_other _ _ _ _ fun e => h.ltT.2 e.symm) (below_setRow hx.2.2 h.t0 _), ?_, setRow_heap _ _ _ _ _ _ hT, by rw [hl], fun _ => hl.symm⟩, fun j hj => ?_, ?_⟩
  · rw [hl]; exact (setRow_other _ _ _ _ h.nt).trans hN
  · exact (setRow_other _ _ _ _ (h.f j hj).2).trans (hk.1 j (Or.inl hj))
  · rw [setRow_size]; exact hk.2
/-- A word is another one now. -/
theorem RS.word (h : RS W0 M N T F s tl w) (hx : Xs W0 M (fun k => F k ∨ k = N ∨ k = T) ⟨s.l.set k v, s.e, s.wr⟩ w') (hk : Kept (fun k => F k ∨ k = N ∨ k = T) w w') (h0 : ¬ s.wr = 0) : RS W0 M N T F ⟨s.l.set k v, s.e, s.wr⟩ tl (w'.setCell ⟨N, k, none⟩ (.int .i64 v)) ∧ Kept F w (w'.setCell ⟨N, k, none⟩ (.int .i64 v)) := by
  have hT : RowL w' T tl := (hk.1 T (Or.inr (Or.inr rfl))).trans h.told
  have hN : RowL w' N s.l := (hk.1 N (Or.inr (Or.inl rfl))).trans h.now
  have hoth : ∀ j, j ≠ N → (w'.setCell ⟨N, k, none⟩ (.int .i64 v)).heap[j]? = w'.heap[j]? := fun j hj => Below.heap_setCell w' ⟨N, k, none⟩ _ j hj
  refine ⟨⟨h.n0, h.t0, h.nt, h.f, hx.far (by simp) (hoth M fun e => h.ltN.2 e.symm) (hx.2.2.setCell (p := ⟨N, k, none⟩) h.n0 _), ?_, (hoth T fun e => h.nt e.symm).trans hT, by simpa using h.len, fun q => absurd q h0⟩, fun j hj => ?_, ?_⟩
  · have := Lib.heap_setCell_same (i := k) hN (.int .i64 v)
    unfold RowL
    rw [this, cZ_set]
    simp
  · exact (hoth j (h.f j hj).1).trans (hk.1 j (Or.inl hj))
  · have := hk.2
    simpa using this
end

set_option maxRecDepth 20000 in
set_option maxHeartbeats 4000000 in
theorem write_0 (W0 : World) (M N T : Nat) (F : Nat → Prop) (s : Ws) (tl : List Int) (hO : Okw s) (d t i v : Int) (hd : d.tmod 4 = 0) (w : World) (h : RS W0 M N T F s tl w) :
    Calls Try.prog 13 #[.pointer (some ⟨M, 0, none⟩), .slice (some ⟨N, 0, none⟩) s.l.length s.l.length, .slice (some ⟨T, 0, none⟩) s.l.length s.l.length, .agg #[.int .u8 d, .int .i64 t, .int .i64 i, .int .i64 v]] w fun e w' => e = .returned (.tuple #[]) ∧ ∃ s2 tl2, Okw s2 ∧ Step s s2 ∧ RS W0 M N T F s2 tl2 w' ∧ Kept F w w' := by
  obtain ⟨b, hb⟩ : ∃ b, b = w.heap.size := ⟨_, rfl⟩
  obtain ⟨w1, hw1⟩ : ∃ w1, w1 = w.alloc (.cells #[.int .u8 d, .int .i64 t, .int .i64 i, .int .i64 v] 29) := ⟨_, rfl⟩
  obtain ⟨F', hF'⟩ : ∃ F', F' = fun k => F k ∨ k = b := ⟨_, rfl⟩
  have HR1 : Hid (RS W0 M N T F' s tl w1) := hide (by rw [hw1, hF', hb]; exact h.boxed _)
  have HEND : Hid (∀ W s2 tl2, RS W0 M N T F' s2 tl2 W → Kept F' w1 W → RS W0 M N T F s2 tl2 W ∧ Kept F w W) := hide fun W s2 tl2 q1 q2 => by
    rw [hF'] at q1 q2
    refine ⟨q1.mono fun i hi => Or.inl hi, Kept.trans ⟨fun i hi => ?_, by rw [hw1]; simp⟩ (q2.mono fun i hi => Or.inl hi)⟩
    rw [hw1]
    exact (below1 w _).block i (h.ltF hi).1
  have HKB : Hid (∀ W W', Kept (fun k => F' k ∨ k = N ∨ k = T) W W' → ∀ j, W'.cell? ⟨b, j, none⟩ = W.cell? ⟨b, j, none⟩) := hide fun W W' k j => World.cell?_of_block (k.1 b (Or.inl (by rw [hF']; exact Or.inr rfl)))
  have p0 : w1.cell? ⟨b, 0, none⟩ = some (.int .u8 d) := by rw [hw1, hb]; exact Lib.cell_of_heap (heap_alloc_new _ _) 0
  have p1 : w1.cell? ⟨b, 1, none⟩ = some (.int .i64 t) := by rw [hw1, hb]; exact Lib.cell_of_heap (heap_alloc_new _ _) 1
  have p2 : w1.cell? ⟨b, 2, none⟩ = some (.int .i64 i) := by rw [hw1, hb]; exact Lib.cell_of_heap (heap_alloc_new _ _) 2
  have p3 : w1.cell? ⟨b, 3, none⟩ = some (.int .i64 v) := by rw [hw1, hb]; exact Lib.cell_of_heap (heap_alloc_new _ _) 3
  clear h hF'
  have C1 := hide (x_begin hO t HR1.out.xs)
  have HF : Hid (∀ W, Xs W0 M (fun k => F' k ∨ k = N ∨ k = T) (begS s t) W → Kept (fun k => F' k ∨ k = N ∨ k = T) w1 W → ∃ s2 tl2, Okw s2 ∧ Step s s2 ∧ RS W0 M N T F s2 tl2 W ∧ Kept F w W) := hide fun W q1 q2 => by
    have hst := step_beg s t
    obtain ⟨r1, r2⟩ := HR1.out.call q1 q2 (beg_l s t) (fun q => by
      by_cases e : begE s t = 0
      · by_cases h1 : t < 1
        · rw [(beg_low h1).2] at q; exact q
        · rw [show begS s t = ⟨s.l, s.e, t⟩ from if_pos e] at q
          have : t = 0 := q
          omega
      · rw [show begS s t = s from if_neg e] at q; exact q)
    obtain ⟨r3, r4⟩ := HEND.out _ _ _ r1 r2
    exact ⟨_, _, hO.beg t, hst, r3, r4⟩
  clear hO HR1 HEND HKB
  generalize s.l.length = n at *
  generalize begS s t = s3 at *
  generalize begE s t = E0 at *
  go_enter Try.func13, Try.ntmps13
  go_wp2_with fail
  rw [← hw1, ← hb]
  clear hw1 hb
  go_wp2_with fail
  refine C1.out.mono ?_
  rintro e w3 ⟨rfl, hX, hk⟩
  have HG := hide (HF.out _ hX hk)
  clear hX hk C1 HF p0 p1 p2 p3
  go_wp2
  go_end0
  exact ⟨rfl, HG.out⟩

set_option maxRecDepth 20000 in
set_option maxHeartbeats 4000000 in
theorem write_1y (W0 : World) (M N T : Nat) (F : Nat → Prop) (s : Ws) (tl : List Int) (hO : Okw s) (d t i v : Int) (hd : d.tmod 4 = 1) (he : endE s t = 0) (w : World) (h : RS W0 M N T F s tl w) :
    Calls Try.prog 13 #[.pointer (some ⟨M, 0, none⟩), .slice (some ⟨N, 0, none⟩) s.l.length s.l.length, .slice (some ⟨T, 0, none⟩) s.l.length s.l.length, .agg #[.int .u8 d, .int .i64 t, .int .i64 i, .int .i64 v]] w fun e w' => e = .returned (.tuple #[]) ∧ ∃ s2 tl2, Okw s2 ∧ Step s s2 ∧ RS W0 M N T F s2 tl2 w' ∧ Kept F w w' := by
  obtain ⟨b, hb⟩ : ∃ b, b = w.heap.size := ⟨_, rfl⟩
  obtain ⟨w1, hw1⟩ : ∃ w1, w1 = w.alloc (.cells #[.int .u8 d, .int .i64 t, .int .i64 i, .int .i64 v] 29) := ⟨_, rfl⟩
  obtain ⟨F', hF'⟩ : ∃ F', F' = fun k => F k ∨ k = b := ⟨_, rfl⟩
  have HR1 : Hid (RS W0 M N T F' s tl w1) := hide (by rw [hw1, hF', hb]; exact h.boxed _)
  have HEND : Hid (∀ W s2 tl2, RS W0 M N T F' s2 tl2 W → Kept F' w1 W → RS W0 M N T F s2 tl2 W ∧ Kept F w W) := hide fun W s2 tl2 q1 q2 => by
    rw [hF'] at q1 q2
    refine ⟨q1.mono fun i hi => Or.inl hi, Kept.trans ⟨fun i hi => ?_, by rw [hw1]; simp⟩ (q2.mono fun i hi => Or.inl hi)⟩
    rw [hw1]
    exact (below1 w _).block i (h.ltF hi).1
  have HKB : Hid (∀ W W', Kept (fun k => F' k ∨ k = N ∨ k = T) W W' → ∀ j, W'.cell? ⟨b, j, none⟩ = W.cell? ⟨b, j, none⟩) := hide fun W W' k j => World.cell?_of_block (k.1 b (Or.inl (by rw [hF']; exact Or.inr rfl)))
  have p0 : w1.cell? ⟨b, 0, none⟩ = some (.int .u8 d) := by rw [hw1, hb]; exact Lib.cell_of_heap (heap_alloc_new _ _) 0
  have p1 : w1.cell? ⟨b, 1, none⟩ = some (.int .i64 t) := by rw [hw1, hb]; exact Lib.cell_of_heap (heap_alloc_new _ _) 1
  have p2 : w1.cell? ⟨b, 2, none⟩ = some (.int .i64 i) := by rw [hw1, hb]; exact Lib.cell_of_heap (heap_alloc_new _ _) 2
  have p3 : w1.cell? ⟨b, 3, none⟩ = some (.int .i64 v) := by rw [hw1, hb]; exact Lib.cell_of_heap (heap_alloc_new _ _) 3
  clear h hF'
  have C1 := hide (x_end hO t HR1.out.xs)
  rw [he] at C1
  have HF : Hid (∀ W, Xs W0 M (fun k => F' k ∨ k = N ∨ k = T) (endS s t) W → Kept (fun k => F' k ∨ k = N ∨ k = T) w1 W → (∀ ty, (Builtin.copy_ #[31, 31] ty #[.slice (some ⟨T, 0, none⟩) s.l.length s.l.length, .slice (some ⟨N, 0, none⟩) s.l.length s.l.length]).run Try.prog W = .ok (goInt s.l.length) (W.setRow T (cZ s.l).toArray)) ∧ ∃ s2 tl2, Okw s2 ∧ Step s s2 ∧ RS W0 M N T F s2 tl2 (W.setRow T (cZ s.l).toArray) ∧ Kept F w (W.setRow T (cZ s.l).toArray)) := hide fun W q1 q2 => by
    have hst := step_end s t
    have k1 : RowL W N s.l := (q2.1 N (Or.inr (Or.inl rfl))).trans HR1.out.now
    have k2 : RowL W T tl := (q2.1 T (Or.inr (Or.inr rfl))).trans HR1.out.told
    obtain ⟨r1, r2⟩ := HR1.out.tell q1 q2 (end_l s t)
    obtain ⟨r3, r4⟩ := HEND.out _ _ _ r1 r2
    exact ⟨run_copy_z k1 k2 HR1.out.len, _, _, hO.fin t, hst, r3, r4⟩
  clear hO HR1 HEND HKB he
  generalize (cZ s.l).toArray = Z at *
  generalize s.l.length = n at *
  generalize endS s t = s3 at *
  go_enter Try.func13, Try.ntmps13
  go_wp2_with fail
  rw [← hw1, ← hb]
  clear hw1 hb
  go_wp2_with fail
  refine C1.out.mono ?_
  rintro e w3 ⟨rfl, hX, hk⟩
  obtain ⟨hcp, hF⟩ := HF.out _ hX hk
  have HG := hide hF
  clear hX hk C1 HF p0 p1 p2 p3 hF
  generalize w3.setRow T Z = w4 at *
  go_wp2
  go_end0
  exact ⟨rfl, HG.out⟩

set_option maxRecDepth 20000 in
set_option maxHeartbeats 4000000 in
theorem write_1n (W0 : World) (M N T : Nat) (F : Nat → Prop) (s : Ws) (tl : List Int) (hO : Okw s) (d t i v : Int) (hd : d.tmod 4 = 1) (he : ¬ endE s t = 0) (w : World) (h : RS W0 M N T F s tl w) :
    Calls Try.prog 13 #[.pointer (some ⟨M, 0, none⟩), .slice (some ⟨N, 0, none⟩) s.l.length s.l.length, .slice (some ⟨T, 0, none⟩) s.l.length s.l.length, .agg #[.int .u8 d, .int .i64 t, .int .i64 i, .int .i64 v]] w fun e w' => e = .returned (.tuple #[]) ∧ ∃ s2 tl2, Okw s2 ∧ Step s s2 ∧ RS W0 M N T F s2 tl2 w' ∧ Kept F w w' := by
  obtain ⟨b, hb⟩ : ∃ b, b = w.heap.size := ⟨_, rfl⟩
  obtain ⟨w1, hw1⟩ : ∃ w1, w1 = w.alloc (.cells #[.int .u8 d, .int .i64 t, .int .i64 i, .int .i64 v] 29) := ⟨_, rfl⟩
  obtain ⟨F', hF'⟩ : ∃ F', F' = fun k => F k ∨ k = b := ⟨_, rfl⟩
  have HR1 : Hid (RS W0 M N T F' s tl w1) := hide (by rw [hw1, hF', hb]; exact h.boxed _)
  have HEND : Hid (∀ W s2 tl2, RS W0 M N T F' s2 tl2 W → Kept F' w1 W → RS W0 M N T F s2 tl2 W ∧ Kept F w W) := hide fun W s2 tl2 q1 q2 => by
    rw [hF'] at q1 q2
    refine ⟨q1.mono fun i hi => Or.inl hi, Kept.trans ⟨fun i hi => ?_, by rw [hw1]; simp⟩ (q2.mono fun i hi => Or.inl hi)⟩
    rw [hw1]
    exact (below1 w _).block i (h.ltF hi).1
  have HKB : Hid (∀ W W', Kept (fun k => F' k ∨ k = N ∨ k = T) W W' → ∀ j, W'.cell? ⟨b, j, none⟩ = W.cell? ⟨b, j, none⟩) := hide fun W W' k j => World.cell?_of_block (k.1 b (Or.inl (by rw [hF']; exact Or.inr rfl)))
  have p0 : w1.cell? ⟨b, 0, none⟩ = some (.int .u8 d) := by rw [hw1, hb]; exact Lib.cell_of_heap (heap_alloc_new _ _) 0
  have p1 : w1.cell? ⟨b, 1, none⟩ = some (.int .i64 t) := by rw [hw1, hb]; exact Lib.cell_of_heap (heap_alloc_new _ _) 1
  have p2 : w1.cell? ⟨b, 2, none⟩ = some (.int .i64 i) := by rw [hw1, hb]; exact Lib.cell_of_heap (heap_alloc_new _ _) 2
  have p3 : w1.cell? ⟨b, 3, none⟩ = some (.int .i64 v) := by rw [hw1, hb]; exact Lib.cell_of_heap (heap_alloc_new _ _) 3
  clear h hF'
  have C1 := hide (x_end hO t HR1.out.xs)
  have HF : Hid (∀ W, Xs W0 M (fun k => F' k ∨ k = N ∨ k = T) (endS s t) W → Kept (fun k => F' k ∨ k = N ∨ k = T) w1 W → ∃ s2 tl2, Okw s2 ∧ Step s s2 ∧ RS W0 M N T F s2 tl2 W ∧ Kept F w W) := hide fun W q1 q2 => by
    have hst := step_end s t
    obtain ⟨r1, r2⟩ := HR1.out.call q1 q2 (end_l s t) (fun q => by rw [show endS s t = s from if_neg he] at q; exact q)
    obtain ⟨r3, r4⟩ := HEND.out _ _ _ r1 r2
    exact ⟨_, _, hO.fin t, hst, r3, r4⟩
  clear hO HR1 HEND HKB
  generalize s.l.length = n at *
  generalize endS s t = s3 at *
  generalize endE s t = E0 at *
  have he2 : (E0 == 0) = false := by simp; exact he
  go_enter Try.func13, Try.ntmps13
  go_wp2_with fail
  rw [← hw1, ← hb]
  clear hw1 hb
  go_wp2_with fail
  refine C1.out.mono ?_
  rintro e w3 ⟨rfl, hX, hk⟩
  have HG := hide (HF.out _ hX hk)
  clear hX hk C1 HF p0 p1 p2 p3
  go_wp2
  go_end0
  exact ⟨rfl, HG.out⟩

set_option maxRecDepth 20000 in
set_option maxHeartbeats 4000000 in
theorem write_2y (W0 : World) (M N T : Nat) (F : Nat → Prop) (s : Ws) (tl : List Int) (hO : Okw s) (d t i v : Int) (hd : d.tmod 4 = 2) (he : putE s t i = 0) (w : World) (h : RS W0 M N T F s tl w) :
    Calls Try.prog 13 #[.pointer (some ⟨M, 0, none⟩), .slice (some ⟨N, 0, none⟩) s.l.length s.l.length, .slice (some ⟨T, 0, none⟩) s.l.length s.l.length, .agg #[.int .u8 d, .int .i64 t, .int .i64 i, .int .i64 v]] w fun e w' => e = .returned (.tuple #[]) ∧ ∃ s2 tl2, Okw s2 ∧ Step s s2 ∧ RS W0 M N T F s2 tl2 w' ∧ Kept F w w' := by
  obtain ⟨b, hb⟩ : ∃ b, b = w.heap.size := ⟨_, rfl⟩
  obtain ⟨w1, hw1⟩ : ∃ w1, w1 = w.alloc (.cells #[.int .u8 d, .int .i64 t, .int .i64 i, .int .i64 v] 29) := ⟨_, rfl⟩
  obtain ⟨F', hF'⟩ : ∃ F', F' = fun k => F k ∨ k = b := ⟨_, rfl⟩
  have HR1 : Hid (RS W0 M N T F' s tl w1) := hide (by rw [hw1, hF', hb]; exact h.boxed _)
  have HEND : Hid (∀ W s2 tl2, RS W0 M N T F' s2 tl2 W → Kept F' w1 W → RS W0 M N T F s2 tl2 W ∧ Kept F w W) := hide fun W s2 tl2 q1 q2 => by
    rw [hF'] at q1 q2
    refine ⟨q1.mono fun i hi => Or.inl hi, Kept.trans ⟨fun i hi => ?_, by rw [hw1]; simp⟩ (q2.mono fun i hi => Or.inl hi)⟩
    rw [hw1]
    exact (below1 w _).block i (h.ltF hi).1
  have HKB : Hid (∀ W W', Kept (fun k => F' k ∨ k = N ∨ k = T) W W' → ∀ j, W'.cell? ⟨b, j, none⟩ = W.cell? ⟨b, j, none⟩) := hide fun W W' k j => World.cell?_of_block (k.1 b (Or.inl (by rw [hF']; exact Or.inr rfl)))
  have p0 : w1.cell? ⟨b, 0, none⟩ = some (.int .u8 d) := by rw [hw1, hb]; exact Lib.cell_of_heap (heap_alloc_new _ _) 0
  have p1 : w1.cell? ⟨b, 1, none⟩ = some (.int .i64 t) := by rw [hw1, hb]; exact Lib.cell_of_heap (heap_alloc_new _ _) 1
  have p2 : w1.cell? ⟨b, 2, none⟩ = some (.int .i64 i) := by rw [hw1, hb]; exact Lib.cell_of_heap (heap_alloc_new _ _) 2
  have p3 : w1.cell? ⟨b, 3, none⟩ = some (.int .i64 v) := by rw [hw1, hb]; exact Lib.cell_of_heap (heap_alloc_new _ _) 3
  clear h hF'
  have C1 := hide (x_put hO.l4 t i v HR1.out.xs)
  rw [he] at C1
  have h1 : ¬ t < 1 := fun q => by rw [(put_low (s := s) (i := i) (v := v) q).1] at he; exact absurd he (by decide)
  have h2 : hasI s.l i = true := by
    cases q : hasI s.l i
    · rw [(put_out (s := s) (v := v) h1 q).1] at he; exact absurd he (by decide)
    · rfl
  have h3 : t = s.wr := Classical.byContradiction fun q => by rw [(put_not (s := s) (v := v) h1 h2 q).1] at he; exact absurd he (by decide)
  obtain ⟨k, rfl, hk⟩ := has_at h2
  have hl4 := hO.l4
  have HF : Hid (∀ W, Xs W0 M (fun k => F' k ∨ k = N ∨ k = T) (putS s t (k : Int) v) W → Kept (fun k => F' k ∨ k = N ∨ k = T) w1 W → (W.cell? ⟨N, k, none⟩ = some (.int .i64 (gz s.l k)) ∧ W.frozen? ⟨N, k, none⟩ = false) ∧ ∃ s2 tl2, Okw s2 ∧ Step s s2 ∧ RS W0 M N T F s2 tl2 (W.setCell ⟨N, k, none⟩ (.int .i64 v)) ∧ Kept F w (W.setCell ⟨N, k, none⟩ (.int .i64 v))) := hide fun W q1 q2 => by
    have hst := step_put s t (k : Int) v
    have hok := hO.put t (k : Int) v
    have k1 : RowL W N s.l := (q2.1 N (Or.inr (Or.inl rfl))).trans HR1.out.now
    have e2 := (put_ok (v := v) h1 h2 h3).2
    rw [Int.toNat_natCast] at e2
    rw [e2] at q1 hst hok
    obtain ⟨r1, r2⟩ := HR1.out.word q1 q2 (by omega)
    obtain ⟨r3, r4⟩ := HEND.out _ _ _ r1 r2
    exact ⟨k1.cell hk, _, _, hok, hst, r3, r4⟩
  have HB := hide (fun W W' q => HKB.out W W' q)
  have i0 : (0 : Int) ≤ (k : Int) := by omega
  have i1 : (k : Int) < (s.l.length : Int) := by omega
  clear hO HR1 HEND HKB he h2 h3 h1
  generalize s.l.length = n at *
  generalize putS s t (k : Int) v = s3 at *
  generalize gz s.l k = G at *
  go_enter Try.func13, Try.ntmps13
  go_wp2_with fail
  rw [← hw1, ← hb]
  clear hw1 hb
  go_wp2_with fail
  refine C1.out.mono ?_
  rintro e w3 ⟨rfl, hX, hk⟩
  obtain ⟨⟨ck, fk⟩, hF⟩ := HF.out _ hX hk
  have z2 := (HB.out _ _ hk 2).trans p2
  have z3 := (HB.out _ _ hk 3).trans p3
  have HG := hide hF
  clear hX hk C1 HF p0 p1 p2 p3 hF HB
  go_wp2
  go_end0
  exact ⟨rfl, HG.out⟩

set_option maxRecDepth 20000 in
set_option maxHeartbeats 4000000 in
theorem write_2n (W0 : World) (M N T : Nat) (F : Nat → Prop) (s : Ws) (tl : List Int) (hO : Okw s) (d t i v : Int) (hd : d.tmod 4 = 2) (he : ¬ putE s t i = 0) (w : World) (h : RS W0 M N T F s tl w) :
    Calls Try.prog 13 #[.pointer (some ⟨M, 0, none⟩), .slice (some ⟨N, 0, none⟩) s.l.length s.l.length, .slice (some ⟨T, 0, none⟩) s.l.length s.l.length, .agg #[.int .u8 d, .int .i64 t, .int .i64 i, .int .i64 v]] w fun e w' => e = .returned (.tuple #[]) ∧ ∃ s2 tl2, Okw s2 ∧ Step s s2 ∧ RS W0 M N T F s2 tl2 w' ∧ Kept F w w' := by
  obtain ⟨b, hb⟩ : ∃ b, b = w.heap.size := ⟨_, rfl⟩
  obtain ⟨w1, hw1⟩ : ∃ w1, w1 = w.alloc (.cells #[.int .u8 d, .int .i64 t, .int .i64 i, .int .i64 v] 29) := ⟨_, rfl⟩
  obtain ⟨F', hF'⟩ : ∃ F', F' = fun k => F k ∨ k = b := ⟨_, rfl⟩
  have HR1 : Hid (RS W0 M N T F' s tl w1) := hide (by rw [hw1, hF', hb]; exact h.boxed _)
  have HEND : Hid (∀ W s2 tl2, RS W0 M N T F' s2 tl2 W → Kept F' w1 W → RS W0 M N T F s2 tl2 W ∧ Kept F w W) := hide fun W s2 tl2 q1 q2 => by
    rw [hF'] at q1 q2
    refine ⟨q1.mono fun i hi => Or.inl hi, Kept.trans ⟨fun i hi => ?_, by rw [hw1]; simp⟩ (q2.mono fun i hi => Or.inl hi)⟩
    rw [hw1]
    exact (below1 w _).block i (h.ltF hi).1
  have HKB : Hid (∀ W W', Kept (fun k => F' k ∨ k = N ∨ k = T) W W' → ∀ j, W'.cell? ⟨b, j, none⟩ = W.cell? ⟨b, j, none⟩) := hide fun W W' k j => World.cell?_of_block (k.1 b (Or.inl (by rw [hF']; exact Or.inr rfl)))
  have p0 : w1.cell? ⟨b, 0, none⟩ = some (.int .u8 d) := by rw [hw1, hb]; exact Lib.cell_of_heap (heap_alloc_new _ _) 0
  have p1 : w1.cell? ⟨b, 1, none⟩ = some (.int .i64 t) := by rw [hw1, hb]; exact Lib.cell_of_heap (heap_alloc_new _ _) 1
  have p2 : w1.cell? ⟨b, 2, none⟩ = some (.int .i64 i) := by rw [hw1, hb]; exact Lib.cell_of_heap (heap_alloc_new _ _) 2
  have p3 : w1.cell? ⟨b, 3, none⟩ = some (.int .i64 v) := by rw [hw1, hb]; exact Lib.cell_of_heap (heap_alloc_new _ _) 3
  clear h hF'
  have C1 := hide (x_put hO.l4 t i v HR1.out.xs)
  have HF : Hid (∀ W, Xs W0 M (fun k => F' k ∨ k = N ∨ k = T) (putS s t i v) W → Kept (fun k => F' k ∨ k = N ∨ k = T) w1 W → ∃ s2 tl2, Okw s2 ∧ Step s s2 ∧ RS W0 M N T F s2 tl2 W ∧ Kept F w W) := hide fun W q1 q2 => by
    have hst := step_put s t i v
    have e2 : putS s t i v = s := if_neg he
    have hok := hO.put t i v
    rw [e2] at q1 hst hok
    obtain ⟨r1, r2⟩ := HR1.out.call q1 q2 rfl id
    obtain ⟨r3, r4⟩ := HEND.out _ _ _ r1 r2
    exact ⟨_, _, hok, hst, r3, r4⟩
  clear hO HR1 HEND HKB
  generalize s.l.length = n at *
  generalize putS s t i v = s3 at *
  generalize putE s t i = E0 at *
  have he2 : (E0 == 0) = false := by simp; exact he
  go_enter Try.func13, Try.ntmps13
  go_wp2_with fail
  rw [← hw1, ← hb]
  clear hw1 hb
  go_wp2_with fail
  refine C1.out.mono ?_
  rintro e w3 ⟨rfl, hX, hk⟩
  have HG := hide (HF.out _ hX hk)
  clear hX hk C1 HF p0 p1 p2 p3
  go_wp2
  go_end0
  exact ⟨rfl, HG.out⟩

set_option maxRecDepth 20000 in
set_option maxHeartbeats 4000000 in
theorem write_3y (W0 : World) (M N T : Nat) (F : Nat → Prop) (s : Ws) (tl : List Int) (hO : Okw s) (d t i v : Int) (hd : d.tmod 4 = 3) (he : putE s t i = 0) (w : World) (h : RS W0 M N T F s tl w) :
    Calls Try.prog 13 #[.pointer (some ⟨M, 0, none⟩), .slice (some ⟨N, 0, none⟩) s.l.length s.l.length, .slice (some ⟨T, 0, none⟩) s.l.length s.l.length, .agg #[.int .u8 d, .int .i64 t, .int .i64 i, .int .i64 v]] w fun e w' => e = .returned (.tuple #[]) ∧ ∃ s2 tl2, Okw s2 ∧ Step s s2 ∧ RS W0 M N T F s2 tl2 w' ∧ Kept F w w' := by
  obtain ⟨b, hb⟩ : ∃ b, b = w.heap.size := ⟨_, rfl⟩
  obtain ⟨w1, hw1⟩ : ∃ w1, w1 = w.alloc (.cells #[.int .u8 d, .int .i64 t, .int .i64 i, .int .i64 v] 29) := ⟨_, rfl⟩
  obtain ⟨F', hF'⟩ : ∃ F', F' = fun k => F k ∨ k = b := ⟨_, rfl⟩
  have HR1 : Hid (RS W0 M N T F' s tl w1) := hide (by rw [hw1, hF', hb]; exact h.boxed _)
  have HEND : Hid (∀ W s2 tl2, RS W0 M N T F' s2 tl2 W → Kept F' w1 W → RS W0 M N T F s2 tl2 W ∧ Kept F w W) := hide fun W s2 tl2 q1 q2 => by
    rw [hF'] at q1 q2
    refine ⟨q1.mono fun i hi => Or.inl hi, Kept.trans ⟨fun i hi => ?_, by rw [hw1]; simp⟩ (q2.mono fun i hi => Or.inl hi)⟩
    rw [hw1]
    exact (below1 w _).block i (h.ltF hi).1
  have HKB : Hid (∀ W W', Kept (fun k => F' k ∨ k = N ∨ k = T) W W' → ∀ j, W'.cell? ⟨b, j, none⟩ = W.cell? ⟨b, j, none⟩) := hide fun W W' k j => World.cell?_of_block (k.1 b (Or.inl (by rw [hF']; exact Or.inr rfl)))
  have p0 : w1.cell? ⟨b, 0, none⟩ = some (.int .u8 d) := by rw [hw1, hb]; exact Lib.cell_of_heap (heap_alloc_new _ _) 0
  have p1 : w1.cell? ⟨b, 1, none⟩ = some (.int .i64 t) := by rw [hw1, hb]; exact Lib.cell_of_heap (heap_alloc_new _ _) 1
  have p2 : w1.cell? ⟨b, 2, none⟩ = some (.int .i64 i) := by rw [hw1, hb]; exact Lib.cell_of_heap (heap_alloc_new _ _) 2
  have p3 : w1.cell? ⟨b, 3, none⟩ = some (.int .i64 v) := by rw [hw1, hb]; exact Lib.cell_of_heap (heap_alloc_new _ _) 3
  clear h hF'
  have C1 := hide (x_put hO.l4 t i v HR1.out.xs)
  rw [he] at C1
  have h1 : ¬ t < 1 := fun q => by rw [(put_low (s := s) (i := i) (v := v) q).1] at he; exact absurd he (by decide)
  have h2 : hasI s.l i = true := by
    cases q : hasI s.l i
    · rw [(put_out (s := s) (v := v) h1 q).1] at he; exact absurd he (by decide)
    · rfl
  have h3 : t = s.wr := Classical.byContradiction fun q => by rw [(put_not (s := s) (v := v) h1 h2 q).1] at he; exact absurd he (by decide)
  obtain ⟨k, rfl, hk⟩ := has_at h2
  have hl4 := hO.l4
  have HF : Hid (∀ W, Xs W0 M (fun k => F' k ∨ k = N ∨ k = T) (putS s t (k : Int) v) W → Kept (fun k => F' k ∨ k = N ∨ k = T) w1 W → (W.cell? ⟨N, k, none⟩ = some (.int .i64 (gz s.l k)) ∧ W.frozen? ⟨N, k, none⟩ = false) ∧ ∃ s2 tl2, Okw s2 ∧ Step s s2 ∧ RS W0 M N T F s2 tl2 (W.setCell ⟨N, k, none⟩ (.int .i64 v)) ∧ Kept F w (W.setCell ⟨N, k, none⟩ (.int .i64 v))) := hide fun W q1 q2 => by
    have hst := step_put s t (k : Int) v
    have hok := hO.put t (k : Int) v
    have k1 : RowL W N s.l := (q2.1 N (Or.inr (Or.inl rfl))).trans HR1.out.now
    have e2 := (put_ok (v := v) h1 h2 h3).2
    rw [Int.toNat_natCast] at e2
    rw [e2] at q1 hst hok
    obtain ⟨r1, r2⟩ := HR1.out.word q1 q2 (by omega)
    obtain ⟨r3, r4⟩ := HEND.out _ _ _ r1 r2
    exact ⟨k1.cell hk, _, _, hok, hst, r3, r4⟩
  have HB := hide (fun W W' q => HKB.out W W' q)
  have i0 : (0 : Int) ≤ (k : Int) := by omega
  have i1 : (k : Int) < (s.l.length : Int) := by omega
  clear hO HR1 HEND HKB he h2 h3 h1
  generalize s.l.length = n at *
  generalize putS s t (k : Int) v = s3 at *
  generalize gz s.l k = G at *
  go_enter Try.func13, Try.ntmps13
  go_wp2_with fail
  rw [← hw1, ← hb]
  clear hw1 hb
  go_wp2_with fail
  refine C1.out.mono ?_
  rintro e w3 ⟨rfl, hX, hk⟩
  obtain ⟨⟨ck, fk⟩, hF⟩ := HF.out _ hX hk
  have z2 := (HB.out _ _ hk 2).trans p2
  have z3 := (HB.out _ _ hk 3).trans p3
  have HG := hide hF
  clear hX hk C1 HF p0 p1 p2 p3 hF HB
  go_wp2
  go_end0
  exact ⟨rfl, HG.out⟩

set_option maxRecDepth 20000 in
set_option maxHeartbeats 4000000 in
theorem write_3n (W0 : World) (M N T : Nat) (F : Nat → Prop) (s : Ws) (tl : List Int) (hO : Okw s) (d t i v : Int) (hd : d.tmod 4 = 3) (he : ¬ putE s t i = 0) (w : World) (h : RS W0 M N T F s tl w) :
    Calls Try.prog 13 #[.pointer (some ⟨M, 0, none⟩), .slice (some ⟨N, 0, none⟩) s.l.length s.l.length, .slice (some ⟨T, 0, none⟩) s.l.length s.l.length, .agg #[.int .u8 d, .int .i64 t, .int .i64 i, .int .i64 v]] w fun e w' => e = .returned (.tuple #[]) ∧ ∃ s2 tl2, Okw s2 ∧ Step s s2 ∧ RS W0 M N T F s2 tl2 w' ∧ Kept F w w' := by
  obtain ⟨b, hb⟩ : ∃ b, b = w.heap.size := ⟨_, rfl⟩
  obtain ⟨w1, hw1⟩ : ∃ w1, w1 = w.alloc (.cells #[.int .u8 d, .int .i64 t, .int .i64 i, .int .i64 v] 29) := ⟨_, rfl⟩
  obtain ⟨F', hF'⟩ : ∃ F', F' = fun k => F k ∨ k = b := ⟨_, rfl⟩
  have HR1 : Hid (RS W0 M N T F' s tl w1) := hide (by rw [hw1, hF', hb]; exact h.boxed _)
  have HEND : Hid (∀ W s2 tl2, RS W0 M N T F' s2 tl2 W → Kept F' w1 W → RS W0 M N T F s2 tl2 W ∧ Kept F w W) := hide fun W s2 tl2 q1 q2 => by
    rw [hF'] at q1 q2
    refine ⟨q1.mono fun i hi => Or.inl hi, Kept.trans ⟨fun i hi => ?_, by rw [hw1]; simp⟩ (q2.mono fun i hi => Or.inl hi)⟩
    rw [hw1]
    exact (below1 w _).block i (h.ltF hi).1
  have HKB : Hid (∀ W W', Kept (fun k => F' k ∨ k = N ∨ k = T) W W' → ∀ j, W'.cell? ⟨b, j, none⟩ = W.cell? ⟨b, j, none⟩) := hide fun W W' k j => World.cell?_of_block (k.1 b (Or.inl (by rw [hF']; exact Or.inr rfl)))
  have p0 : w1.cell? ⟨b, 0, none⟩ = some (.int .u8 d) := by rw [hw1, hb]; exact Lib.cell_of_heap (heap_alloc_new _ _) 0
  have p1 : w1.cell? ⟨b, 1, none⟩ = some (.int .i64 t) := by rw [hw1, hb]; exact Lib.cell_of_heap (heap_alloc_new _ _) 1
  have p2 : w1.cell? ⟨b, 2, none⟩ = some (.int .i64 i) := by rw [hw1, hb]; exact Lib.cell_of_heap (heap_alloc_new _ _) 2
  have p3 : w1.cell? ⟨b, 3, none⟩ = some (.int .i64 v) := by rw [hw1, hb]; exact Lib.cell_of_heap (heap_alloc_new _ _) 3
  clear h hF'
  have C1 := hide (x_put hO.l4 t i v HR1.out.xs)
  have HF : Hid (∀ W, Xs W0 M (fun k => F' k ∨ k = N ∨ k = T) (putS s t i v) W → Kept (fun k => F' k ∨ k = N ∨ k = T) w1 W → ∃ s2 tl2, Okw s2 ∧ Step s s2 ∧ RS W0 M N T F s2 tl2 W ∧ Kept F w W) := hide fun W q1 q2 => by
    have hst := step_put s t i v
    have e2 : putS s t i v = s := if_neg he
    have hok := hO.put t i v
    rw [e2] at q1 hst hok
    obtain ⟨r1, r2⟩ := HR1.out.call q1 q2 rfl id
    obtain ⟨r3, r4⟩ := HEND.out _ _ _ r1 r2
    exact ⟨_, _, hok, hst, r3, r4⟩
  clear hO HR1 HEND HKB
  generalize s.l.length = n at *
  generalize putS s t i v = s3 at *
  generalize putE s t i = E0 at *
  have he2 : (E0 == 0) = false := by simp; exact he
  go_enter Try.func13, Try.ntmps13
  go_wp2_with fail
  rw [← hw1, ← hb]
  clear hw1 hb
  go_wp2_with fail
  refine C1.out.mono ?_
  rintro e w3 ⟨rfl, hX, hk⟩
  have HG := hide (HF.out _ hX hk)
  clear hX hk C1 HF p0 p1 p2 p3
  go_wp2
  go_end0
  exact ⟨rfl, HG.out⟩

theorem four {m : Nat} (h : m < 4) : m = 0 ∨ m = 1 ∨ m = 2 ∨ m = 3 := by omega
theorem write_any (W0 : World) (M N T : Nat) (F : Nat → Prop) (s : Ws) (tl : List Int) (hO : Okw s) (d t i v : Int) (hd : 0 ≤ d ∧ d ≤ 255) (w : World) (h : RS W0 M N T F s tl w) :
    Calls Try.prog 13 #[.pointer (some ⟨M, 0, none⟩), .slice (some ⟨N, 0, none⟩) s.l.length s.l.length, .slice (some ⟨T, 0, none⟩) s.l.length s.l.length, .agg #[.int .u8 d, .int .i64 t, .int .i64 i, .int .i64 v]] w fun e w' => e = .returned (.tuple #[]) ∧ ∃ s2 tl2, Okw s2 ∧ Step s s2 ∧ RS W0 M N T F s2 tl2 w' ∧ Kept F w w' := by
  obtain ⟨m, hm, hm4, _⟩ := u8_mod hd 4 (by omega) (by omega)
  rcases four hm4 with rfl | rfl | rfl | rfl
  · exact write_0 W0 M N T F s tl hO d t i v hm w h
  · by_cases he : endE s t = 0
    · exact write_1y W0 M N T F s tl hO d t i v hm he w h
    · exact write_1n W0 M N T F s tl hO d t i v hm he w h
  · by_cases he : putE s t i = 0
    · exact write_2y W0 M N T F s tl hO d t i v hm he w h
    · exact write_2n W0 M N T F s tl hO d t i v hm he w h
  · by_cases he : putE s t i = 0
    · exact write_3y W0 M N T F s tl hO d t i v hm he w h
    · exact write_3n W0 M N T F s tl hO d t i v hm he w h

end Go.Proofs.Ythadcampbchihaa
