/-
  What fifo's Pop comes to.
-/
import Derived.Test.YtonahaembfbgbaaSeq
namespace Go.Proofs.Ytonahaembfbgbaa
open Go.RowKit Go.Shelf
attribute [local go_sem] Oper.semAt_some

theorem below5 (w : World) (o1 o2 o3 o4 o5 : Obj) : Below w.heap.size w (((((w.alloc o1).alloc o2).alloc o3).alloc o4).alloc o5) :=
  ((below3 w o1 o2 o3).alloc (by simp; omega) _).alloc (by simp; omega) _

theorem at_end2 {W : World} {B D : Nat} {v u v' u' : Value} {t t' : TypeId} (h4 : Boxed W B t v') (h5 : Boxed W (B + 1) t' u') (hK : W.heap[D]? = some (.deferred (some []))) :
    ((W.setCell ⟨B, 0, none⟩ v).setCell ⟨B + 1, 0, none⟩ u).heap[D]? = some (.deferred (some [])) ∧
    Boxed (((W.setCell ⟨B, 0, none⟩ v).setCell ⟨B + 1, 0, none⟩ u).putObj D (.deferred none)) B t v ∧ Boxed (((W.setCell ⟨B, 0, none⟩ v).setCell ⟨B + 1, 0, none⟩ u).putObj D (.deferred none)) (B + 1) t' u ∧
    ∀ w : World, Below w.heap.size w W → w.heap.size ≤ B ∧ w.heap.size ≤ D → Below w.heap.size w (((W.setCell ⟨B, 0, none⟩ v).setCell ⟨B + 1, 0, none⟩ u).putObj D (.deferred none)) := by
  have hK' := ((KeepsOthers.setCell W ⟨B, 0, none⟩ v).trans (KeepsOthers.setCell _ ⟨B + 1, 0, none⟩ u)).same D _ hK rfl
  have y4 := (h4.set v).other (B' := B + 1) (by omega) u
  have y5 := (h5.other (B' := B) (by omega) v).set u
  refine ⟨hK', boxed_keep y4 (grownBy_putObj' _ D (.deferred none)) (fun r e => by cases e; exact ⟨_, hK', rfl⟩), boxed_keep y5 (grownBy_putObj' _ D (.deferred none)) (fun r e => by cases e; exact ⟨_, hK', rfl⟩), fun w hB h => ?_⟩
  exact ((hB.setCell (p := ⟨B, 0, none⟩) h.1 _).setCell (p := ⟨B + 1, 0, none⟩) (show w.heap.size ≤ B + 1 by omega) _).trans (belowK_b (w := w) (Nat.le_refl _) _ D _ _ h.2 hK' rfl rfl)

theorem now_grown {w A A' : World} {B P : Nat} {s : Qs} {row : Option Nat} (h : Now B P s w A) (hB : B < w.heap.size) (hP : P < w.heap.size) (hg : A.grownBy A' row) (hr : ∀ r, row = some r → w.heap.size ≤ r) : Now B P s w A' := by
  obtain ⟨h1, h2⟩ := h
  have hz := h2.size
  have hb : ∀ k, k < w.heap.size → A'.heap[k]? = A.heap[k]? := fun k hk => hg.block k (by omega) (fun e => by have := hr k e.symm; omega)
  exact ⟨h1.same (hb B hB) (hb P hP), ⟨hg.os.trans h2.os, hg.tape.trans h2.tape, hg.output.trans h2.output, Nat.le_trans hz hg.size, fun k hk h3 h4 => (hb k hk).trans (h2.block k hk h3 h4)⟩⟩
theorem Turn.keeps {B P n : Nat} {a b : World} (h : Turn B P a b) (hB : B < n) (hP : P < n) : KeepsFrom n a b :=
  ⟨h.size, fun k o hk h0 _ => (h.block k (Array.getElem?_eq_some_iff.1 h0).1 (by omega) (by omega)).trans h0⟩
theorem Turn.boxed {B P b : Nat} {W W' : World} {t : TypeId} {v : Value} (h : Turn B P W W') (hb : Boxed W b t v) (h1 : b ≠ B) (h2 : b ≠ P) : Boxed W' b t v := (h.block b hb.lt h1 h2).trans hb
theorem Turn.after {B P m : Nat} {w W W' : World} (hB : Below m w W) (hm : m = w.heap.size) (h : Turn B P W W') : Turn B P w W' :=
  ⟨h.os.trans hB.os, h.tape.trans hB.tape, h.output.trans hB.output, Nat.le_trans hB.size h.size, fun k hk h1 h2 => (h.block k (Nat.lt_of_lt_of_le hk hB.size) h1 h2).trans (hB.block k (by omega))⟩
theorem Turn.setHigh {B P b : Nat} {w W : World} (h : Turn B P w W) (hb : w.heap.size ≤ b) (v : Value) : Turn B P w (W.setCell ⟨b, 0, none⟩ v) :=
  ⟨h.os, h.tape, h.output, by simpa using h.size, fun k hk h1 h2 => (Below.heap_setCell W ⟨b, 0, none⟩ v k (fun e => by have : k = b := e; omega)).trans (h.block k hk h1 h2)⟩

set_option maxRecDepth 100000 in
set_option maxHeartbeats 2000000 in
theorem pop_gives (B P : Nat) (s : Qs) (k : Int) (w : World) (hs : Ok s) (hA : AtQ w B P s) :
    Calls Try.prog 10 #[.pointer (some ⟨B, 0, none⟩), .int .i64 k] w fun e W' =>
      (allOf s k = [] ∧ e = .returned (.tuple #[.int .i64 0, .bool false]) ∧ Below w.heap.size w W') ∨
      (∃ x r, allOf s k = x :: r ∧ e = .returned (.tuple #[.int .i64 (x : Int), .bool (rmB s x)]) ∧ Now B P (rmOf s x) w W') := by
  have hBl := hA.ltB
  have hPl := hA.ltP
  refine (callsIn_wide (n := 3)).1 ?_
  refine callsIn_of_wp_marks Try.func10 rfl trivial ?_ rfl
  simp only [Try.ntmps10, List.size_toArray, List.length_cons, List.length_nil, Nat.reduceAdd, Nat.reduceSub, Array.replicate_succ, Array.replicate_zero, List.push_toArray, List.append_toArray, List.nil_append, List.cons_append]
  gi_wp2_with (refine ⟨trivial, ?_⟩; gi_at_call 25; refine (in_in _ _ _ _).mono ?_; rintro e w' ⟨rfl, rfl⟩)
  have bA := ((((Boxed.new w 23 (.pointer (some ⟨B, 0, none⟩))).alloc (.cells #[.int .i64 0] 3)).alloc (.cells #[.bool false] 4)).alloc (.cells #[.pointer (some ⟨B, 0, none⟩)] 23)).alloc (.cells #[.int .i64 k] 3)
  have bX := (((Boxed.new (w.alloc (.cells #[.pointer (some ⟨B, 0, none⟩)] 23)) 3 (.int .i64 0)).alloc (.cells #[.bool false] 4)).alloc (.cells #[.pointer (some ⟨B, 0, none⟩)] 23)).alloc (.cells #[.int .i64 k] 3)
  have bO := ((Boxed.new ((w.alloc (.cells #[.pointer (some ⟨B, 0, none⟩)] 23)).alloc (.cells #[.int .i64 0] 3)) 4 (.bool false)).alloc (.cells #[.pointer (some ⟨B, 0, none⟩)] 23)).alloc (.cells #[.int .i64 k] 3)
  have bQ := (Boxed.new (((w.alloc (.cells #[.pointer (some ⟨B, 0, none⟩)] 23)).alloc (.cells #[.int .i64 0] 3)).alloc (.cells #[.bool false] 4)) 23 (.pointer (some ⟨B, 0, none⟩))).alloc (.cells #[.int .i64 k] 3)
  have bK := Boxed.new ((((w.alloc (.cells #[.pointer (some ⟨B, 0, none⟩)] 23)).alloc (.cells #[.int .i64 0] 3)).alloc (.cells #[.bool false] 4)).alloc (.cells #[.pointer (some ⟨B, 0, none⟩)] 23)) 3 (.int .i64 k)
  simp only [World.size_alloc] at bX bO bQ bK
  have hB0 := below5 w (.cells #[.pointer (some ⟨B, 0, none⟩)] 23) (.cells #[.int .i64 0] 3) (.cells #[.bool false] 4) (.cells #[.pointer (some ⟨B, 0, none⟩)] 23) (.cells #[.int .i64 k] 3)
  refine wpIn_rangeFunc_ownG rfl (by decide) (gf := 28) (lb := #[.pointer (some ⟨w.heap.size + 1 + 1 + 1, 0, none⟩), .pointer (some ⟨w.heap.size + 1 + 1 + 1 + 1, 0, none⟩)]) rfl trivial (enters_of Try.func28 (by kernel_rfl) rfl)
    (iter_stops 2 (by decide) (w.heap.size + 1 + 1 + 1) (w.heap.size + 1 + 1 + 1 + 1) (some ⟨B, 0, none⟩) k (allOf s k) (fun _ => True) w _ (.inl ⟨B, P, s, rfl, hs, hA, rfl⟩) (fun _ _ => trivial) trivial hB0 bQ bK)
    (fun h k => h.trans k) (keepS_b) (Below.refl _ _) (fun _ => rfl)
    (fun pr W => (pr = [] ∧ Boxed W w.heap.size 23 (.pointer (some ⟨B, 0, none⟩)) ∧ Boxed W (w.heap.size + 1) 3 (.int .i64 0) ∧ Boxed W (w.heap.size + 1 + 1) 4 (.bool false)) ∧ Below w.heap.size w W)
    (fun c pr W => (c = .ret ∧ ∃ x : Nat, pr = [x] ∧ Boxed W (w.heap.size + 1) 3 (.int .i64 (x : Int)) ∧ Boxed W (w.heap.size + 1 + 1) 4 (.bool (rmB s x))) ∧ (∃ x : Nat, pr = [x] ∧ Now B P (rmOf s x) w W))
    (OwnFrom.and (Own.from (fun s A B row hs hg hr => ⟨hs.1, boxed_keep hs.2.1 hg hr, boxed_keep hs.2.2.1 hg hr, boxed_keep hs.2.2.2 hg hr⟩) _) (ownFrom_below (Nat.le_refl _) (by simp; omega)))
    (fun c => OwnFrom.and (Own.from (fun s A B row hs hg hr => by
      obtain ⟨h1, x, h2, h3, h4⟩ := hs
      exact ⟨h1, x, h2, boxed_keep h3 hg hr, boxed_keep h4 hg hr⟩) _) (fun s A A' row hs hg hr => by
      obtain ⟨x, h1, h2⟩ := hs
      exact ⟨x, h1, now_grown h2 hBl hPl hg (fun r e => by have := (hr r e).1; simp at this; omega)⟩))
    ⟨⟨rfl, bA, bX, bO⟩, hB0⟩
    (fun x => { tmps := #[.pointer (some ⟨B, 0, none⟩), .int .i64 k, .pointer (some ⟨w.heap.size, 0, none⟩), undef, .pointer (some ⟨w.heap.size + 1, 0, none⟩), .pointer (some ⟨w.heap.size + 1 + 1, 0, none⟩), .int .i64 (x : Int), .pointer (some ⟨B, 0, none⟩), .int .i64 k, .func (.func 28) #[] #[.pointer (some ⟨w.heap.size + 1 + 1 + 1, 0, none⟩), .pointer (some ⟨w.heap.size + 1 + 1 + 1 + 1, 0, none⟩)], .int .i64 (x : Int), undef, undef, undef, undef], defers := [] }) ?assign ?body ?done ?stop
  case assign =>
    intro l x W K hK
    unfold enc
    gi_wp2
    exact hK
  case body =>
    rintro l pr x W ⟨⟨rfl, b0, b1, b2⟩, hB⟩ hN
    have c0 := b0.cell
    have hR := remove_any B P s (x : Int) W hs (hA.below hB)
    gi_wp2_with (refine ⟨trivial, ?_⟩; gi_at_call 12; refine (CallsIn.inRound l (callsIn_wide.2 hR)).mono ?_; rintro e W2 ⟨rfl, hA2, hT⟩
                 have z1 := hT.boxed b1 (by omega) (by omega)
                 have z2 := hT.boxed b2 (by omega) (by omega)
                 have c1 := z1.cell
                 have c2 := z2.cell
                 have f1 := z1.frozen
                 have f2 := z2.frozen)
    have hT' := Turn.after hB rfl hT
    refine ⟨((hT.keeps (by simp; omega) (by simp; omega)).trans ((KeepsOthers.setCell _ _ _).from _)).trans ((KeepsOthers.setCell _ _ _).from _), ⟨rfl, x, rfl, (z1.set _).other (by omega) _, (z2.other (by omega) _).set _⟩, x, rfl, ?_, (hT'.setHigh (by omega) _).setHigh (by omega) _⟩
    refine hA2.same ?_ ?_
    · rw [Below.heap_setCell _ _ _ _ (show B ≠ w.heap.size + 1 + 1 by omega), Below.heap_setCell _ _ _ _ (show B ≠ w.heap.size + 1 by omega)]
    · rw [Below.heap_setCell _ _ _ _ (show P ≠ w.heap.size + 1 + 1 by omega), Below.heap_setCell _ _ _ _ (show P ≠ w.heap.size + 1 by omega)]
  case done =>
    rintro D ys W hD hys ⟨⟨rfl, b0, b1, b2⟩, hB⟩ hK
    have c1 := b1.cell
    have c2 := b2.cell
    have f1 := b1.frozen
    have f2 := b2.frozen
    gi_wp2
    have R := at_end2 (v := .int .i64 0) (u := .bool false) b1 b2 hK
    refine ⟨by simp, .inl ⟨_, _, rfl, run_takeDeferred R.1, ?_⟩⟩
    have k4 := R.2.1.cell
    have k5 := R.2.2.1.cell
    have kB := R.2.2.2 w hB (by simp at hD; omega)
    clear R
    generalize World.putObj _ _ _ = X at k4 k5 kB ⊢
    exact ⟨.tuple #[.int .i64 0, .bool false], by simp [results, Try.f10, go_sem, k4, k5], .inl ⟨hys.symm, rfl, kB⟩⟩
  case stop =>
    rintro D c pr W hD ⟨j, hj, hpr⟩ ⟨⟨rfl, x, rfl, b1, b2⟩, x', hx', hNow⟩ hK
    obtain rfl : x = x' := by simpa using hx'
    have c1 := b1.cell
    have c2 := b2.cell
    gi_wp2
    refine ⟨by simp, .inl ⟨_, _, rfl, run_takeDeferred hK, ?_⟩⟩
    have k4 := (boxed_keep b1 (grownBy_putObj' _ D (.deferred none)) (fun r e => by cases e; exact ⟨_, hK, rfl⟩)).cell
    have k5 := (boxed_keep b2 (grownBy_putObj' _ D (.deferred none)) (fun r e => by cases e; exact ⟨_, hK, rfl⟩)).cell
    have kN := now_grown hNow hBl hPl (grownBy_putObj' W D (.deferred none)) (fun r e => by cases e; simp at hD; omega)
    generalize World.putObj _ _ _ = X at k4 k5 kN ⊢
    refine ⟨.tuple #[.int .i64 (x : Int), .bool (rmB s x)], by simp [results, Try.f10, go_sem, k4, k5], .inr ⟨x, ⟨(allOf s k).tail, ?_⟩, rfl, kN⟩⟩
    revert hpr hj
    cases allOf s k with
    | nil => simp
    | cons y r => intro _ h; simp at h; simp [h.1]

theorem all_where {s : Qs} (hs : Ok s) {k : Int} {x : Nat} (h : x ∈ allOf s k) : whereOf s (x : Int) = k ∧ hasQ s k ∧ x < s.ni ∧ s.wh x = k := by
  unfold allOf at h
  split at h
  · rename_i hk
    have hm := (hs.mem k.toNat x (by omega)).1 h
    have hi : hasI s (x : Int) := by constructor <;> omega
    have e : s.wh x = k := by rw [hm.2]; omega
    exact ⟨by unfold whereOf; rw [if_pos hi]; simpa using e, hk, hm.1, e⟩
  · simp at h
theorem all_rmB {s : Qs} (hs : Ok s) {k : Int} {x : Nat} (h : x ∈ allOf s k) : rmB s (x : Int) = true := by
  obtain ⟨h1, h2, _⟩ := all_where hs h
  exact if_neg (by rw [h1]; omega)

theorem pop_any (B P : Nat) (s : Qs) (k : Int) (w : World) (hs : Ok s) (hA : AtQ w B P s) :
    Calls Try.prog 10 #[.pointer (some ⟨B, 0, none⟩), .int .i64 k] w fun e W' => e = .returned (.tuple #[.int .i64 (popX s k : Int), .bool (popB s k)]) ∧ Now B P (popOf s k) w W' := by
  refine (pop_gives B P s k w hs hA).mono ?_
  rintro e W' (⟨h1, rfl, h2⟩ | ⟨x, r, h1, rfl, h2⟩)
  · have e : popX s k = 0 ∧ popB s k = false ∧ popOf s k = s := by simp [popX, popB, popOf, h1]
    rw [e.1, e.2.1, e.2.2]
    exact ⟨rfl, hA.below h2, Turn.of_below h2⟩
  · have e : popX s k = x ∧ popB s k = true ∧ popOf s k = rmOf s x := by simp [popX, popB, popOf, h1]
    rw [e.1, e.2.1, e.2.2, ← all_rmB hs (k := k) (x := x) (by rw [h1]; simp)]
    exact ⟨rfl, h2⟩

set_option maxRecDepth 100000 in
set_option maxHeartbeats 2000000 in
theorem pop_nil (k : Int) (w : World) :
    Calls Try.prog 10 #[.pointer none, .int .i64 k] w fun e W' => e = .returned (.tuple #[.int .i64 0, .bool false]) ∧ Below w.heap.size w W' := by
  refine (callsIn_wide (n := 3)).1 ?_
  refine callsIn_of_wp_marks Try.func10 rfl trivial ?_ rfl
  simp only [Try.ntmps10, List.size_toArray, List.length_cons, List.length_nil, Nat.reduceAdd, Nat.reduceSub, Array.replicate_succ, Array.replicate_zero, List.push_toArray, List.append_toArray, List.nil_append, List.cons_append]
  gi_wp2_with (refine ⟨trivial, ?_⟩; gi_at_call 25; refine (in_in _ _ _ _).mono ?_; rintro e w' ⟨rfl, rfl⟩)
  have bX := (((Boxed.new (w.alloc (.cells #[.pointer none] 23)) 3 (.int .i64 0)).alloc (.cells #[.bool false] 4)).alloc (.cells #[.pointer none] 23)).alloc (.cells #[.int .i64 k] 3)
  have bO := ((Boxed.new ((w.alloc (.cells #[.pointer none] 23)).alloc (.cells #[.int .i64 0] 3)) 4 (.bool false)).alloc (.cells #[.pointer none] 23)).alloc (.cells #[.int .i64 k] 3)
  have bQ := (Boxed.new (((w.alloc (.cells #[.pointer none] 23)).alloc (.cells #[.int .i64 0] 3)).alloc (.cells #[.bool false] 4)) 23 (.pointer none)).alloc (.cells #[.int .i64 k] 3)
  have bK := Boxed.new ((((w.alloc (.cells #[.pointer none] 23)).alloc (.cells #[.int .i64 0] 3)).alloc (.cells #[.bool false] 4)).alloc (.cells #[.pointer none] 23)) 3 (.int .i64 k)
  simp only [World.size_alloc] at bX bO bQ bK
  have hB0 := below5 w (.cells #[.pointer none] 23) (.cells #[.int .i64 0] 3) (.cells #[.bool false] 4) (.cells #[.pointer none] 23) (.cells #[.int .i64 k] 3)
  refine wpIn_rangeFunc_ownG rfl (by decide) (gf := 28) (lb := #[.pointer (some ⟨w.heap.size + 1 + 1 + 1, 0, none⟩), .pointer (some ⟨w.heap.size + 1 + 1 + 1 + 1, 0, none⟩)]) rfl trivial (enters_of Try.func28 (by kernel_rfl) rfl)
    (iter_stops 2 (by decide) (w.heap.size + 1 + 1 + 1) (w.heap.size + 1 + 1 + 1 + 1) none k [] (fun _ => True) w _ (.inr ⟨rfl, rfl⟩) (fun _ _ => trivial) trivial hB0 bQ bK)
    (fun h k => h.trans k) (keepS_b) (Below.refl _ _) (fun _ => rfl)
    (fun _ W => (Boxed W (w.heap.size + 1) 3 (.int .i64 0) ∧ Boxed W (w.heap.size + 1 + 1) 4 (.bool false)) ∧ Below w.heap.size w W)
    (fun _ _ _ => False)
    (OwnFrom.and (Own.from (fun s A B row hs hg hr => ⟨boxed_keep hs.1 hg hr, boxed_keep hs.2 hg hr⟩) _) (ownFrom_below (Nat.le_refl _) (by simp; omega)))
    (fun _ _ _ _ _ hs _ _ => hs)
    ⟨⟨bX, bO⟩, hB0⟩
    (fun x => { tmps := #[.pointer none, .int .i64 k, .pointer (some ⟨w.heap.size, 0, none⟩), undef, .pointer (some ⟨w.heap.size + 1, 0, none⟩), .pointer (some ⟨w.heap.size + 1 + 1, 0, none⟩), .int .i64 (x : Int), .pointer none, .int .i64 k, .func (.func 28) #[] #[.pointer (some ⟨w.heap.size + 1 + 1 + 1, 0, none⟩), .pointer (some ⟨w.heap.size + 1 + 1 + 1 + 1, 0, none⟩)], .int .i64 (x : Int), undef, undef, undef, undef], defers := [] }) ?assign ?body ?done ?stop
  case assign =>
    intro l x W K hK
    unfold enc
    gi_wp2
    exact hK
  case body =>
    rintro l pr x W _ hN
    simp at hN
  case done =>
    rintro D ys W hD hys ⟨⟨b1, b2⟩, hB⟩ hK
    have c1 := b1.cell
    have c2 := b2.cell
    have f1 := b1.frozen
    have f2 := b2.frozen
    gi_wp2
    have R := at_end2 (v := .int .i64 0) (u := .bool false) b1 b2 hK
    refine ⟨by simp, .inl ⟨_, _, rfl, run_takeDeferred R.1, ?_⟩⟩
    have k4 := R.2.1.cell
    have k5 := R.2.2.1.cell
    have kB := R.2.2.2 w hB (by simp at hD; omega)
    clear R
    generalize World.putObj _ _ _ = X at k4 k5 kB ⊢
    exact ⟨.tuple #[.int .i64 0, .bool false], by simp [results, Try.f10, go_sem, k4, k5], rfl, kB⟩
  case stop =>
    rintro D c pre W _ _ h _
    exact h.elim

end Go.Proofs.Ytonahaembfbgbaa
