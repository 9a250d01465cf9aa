/-
  What the document's Put comes to.
-/
import Derived.Test.YtiookbmffdmdeaaRef
import Derived.Test.YtiookbmffdmdeaaLast
import Derived.Deep.DeepCutAuto
namespace Go.Proofs.Ytiookbmffdmdeaa
open Go.RowKit

theorem owns_slice {W : World} {base e size : Nat} {v : Value} {n : Nat} {xs : List Value} (h : W.ownsRow base e size v n xs) : ∃ a c, v = .slice a n c := by
  rcases h.2 with ⟨rfl, rfl⟩ | ⟨g, cap, cur, rfl, _⟩
  · exact ⟨none, 0, rfl⟩
  · exact ⟨_, _, rfl⟩
theorem left_of {A R : Prop} (h : A ∧ R) : A := h.1
theorem run_none (a : Option Addr) (n c : Nat) (hnc : n ≤ c) (ty : TypeId) (w : World) : (Builtin.append_ #[22, 22] ty #[.slice a n c, .slice none 0 0]).run Try.prog w = .ok (.slice a n c) w := by
  have hu := Try.underlying22
  have hu3 := Try.underlying31
  cases a <;> simp [Builtin.append_, go_sem, hnc]

/-- 'append' of any row of wake-ups onto one that the call owns, as one step of a region that draws its order. -/
theorem step_append_row (w : World) {ops : Array Oper} {o : Oper} {a : Act} {K : Act → World → Prop} {Q : Exit → Act → World → Prop} {E : Prop} (hgd : o.guard = none) (s x : Operand)
    (ho : o.op = .call { callee := .builtin .append, args := #[s, x], argTypes := #[22, 22] })
    (base : Nat) (v : Value) (n : Nat) (xs : List Wk) (hs : a.eval s = v) (hown : w.ownsRow base 31 2 v n (cW xs))
    (u : Value) (ys : List Wk) (hx : a.eval x = u) (hu : (u = .slice none 0 0 ∧ ys = []) ∨ ∃ ad c, u = .slice (some ad) ys.length c ∧ ∀ j q, (cW ys)[j]? = some q → w.cell? (ad.add j) = some q)
    (h63 : n + ys.length ≤ 1000) (hbase : base ≤ w.heap.size)
    (h : ∀ ad' cap' w', w'.ownsRow base 31 2 (.slice ad' (n + ys.length) cap') (n + ys.length) (cW (xs ++ ys)) → w.grownBy w' v.ownBlock → ((Value.slice ad' (n + ys.length) cap').ownBlock = v.ownBlock ∨ (Value.slice ad' (n + ys.length) cap').ownBlock = some w.heap.size) → K (a.put o.dst (.slice ad' (n + ys.length) cap')) w') :
    if Region.wanted o (yielded ops a.tmps) = true then Oper.wp Try.prog o a w K Q else E := by
  have hw : Region.wanted o (yielded ops a.tmps) = true := by simp [Region.wanted, hgd]
  rw [if_pos hw]
  obtain ⟨i0, hi, hz0, hz1, hz2⟩ := info_parts info31
  rcases hu with ⟨rfl, rfl⟩ | ⟨ad, c, rfl, hnews⟩
  · obtain ⟨a0, c0, rfl⟩ := owns_slice hown
    have hnc : n ≤ c0 := by
      rcases hown.2 with ⟨e, e2⟩ | ⟨g, cap, cur, e, _, _, hc, _⟩
      · omega
      · injection e with _ _ e3; omega
    have hr := run_none a0 n c0 hnc o.type w
    unfold Oper.wp execOp
    simp only [ho, resolve, invoke, builtin, Sem.run_bind, Sem.run_pure, Result.andThen_ok, List.map_toArray, List.map_cons, List.map_nil, hs, hx, hr]
    exact h a0 c0 w (by simpa using hown) ⟨rfl, rfl, rfl, Nat.le_refl _, fun _ _ _ => rfl⟩ (Or.inl rfl)
  · obtain ⟨v', w', hr, h2, h3, _, h5⟩ := run_append_own_at (P := Try.prog) w base 22 o.type 31 i0 _ 2 16 Try.underlying22 hi hz0 hz1 hz2 rfl (by omega) v n (cW xs) hown ad ys.length c (cW ys) (cW_len ys) hnews (cW_ones ys) (by unfold maxLen; omega) (by omega) hbase
    obtain ⟨ad', cap', rfl⟩ := owns_slice h2
    unfold Oper.wp execOp
    simp only [ho, resolve, invoke, builtin, Sem.run_bind, Sem.run_pure, Result.andThen_ok, List.map_toArray, List.map_cons, List.map_nil, hs, hx, hr]
    exact h ad' cap' w' (by rw [cW_app]; exact h2) h3 h5

/-- 'append' of any row of wake-ups onto a new one in which there is nothing. -/
theorem step_copy_row (w : World) {ops : Array Oper} {o : Oper} {a : Act} {K : Act → World → Prop} {Q : Exit → Act → World → Prop} {E : Prop} (hgd : o.guard = none) (s x : Operand)
    (ho : o.op = .call { callee := .builtin .append, args := #[s, x], argTypes := #[22, 22] })
    (base : Nat) (v : Value) (hs : a.eval s = v) (hown : w.ownsRow base 31 2 v 0 (cW []))
    (u : Value) (ys : List Wk) (hx : a.eval x = u) (hu : (u = .slice none 0 0 ∧ ys = []) ∨ ∃ ad c, u = .slice (some ad) ys.length c ∧ ∀ j q, (cW ys)[j]? = some q → w.cell? (ad.add j) = some q)
    (h63 : ys.length ≤ 1000) (hbase : base ≤ w.heap.size)
    (h : ∀ ad' cap' w', w'.ownsRow base 31 2 (.slice ad' ys.length cap') ys.length (cW ys) → w.grownBy w' v.ownBlock → ((Value.slice ad' ys.length cap').ownBlock = v.ownBlock ∨ (Value.slice ad' ys.length cap').ownBlock = some w.heap.size) → K (a.put o.dst (.slice ad' ys.length cap')) w') :
    if Region.wanted o (yielded ops a.tmps) = true then Oper.wp Try.prog o a w K Q else E := by
  refine step_append_row w hgd s x ho base v 0 [] hs hown u ys hx hu (by omega) hbase ?_
  intro ad' cap' w' h2 h3 h4
  simp only [Nat.zero_add, List.nil_append] at h2 h4 ⊢
  exact h ad' cap' w' h2 h3 h4
theorem new2 {W : World} {x : Nat} {a b : Int} (h0 : W.cell? ⟨x, 0, none⟩ = some (.int .i64 a)) (h1 : W.cell? ⟨x, 1, none⟩ = some (.int .i64 b)) : ∀ j u, (cW [⟨a, b⟩])[j]? = some u → W.cell? ((⟨x, 0, none⟩ : Addr).add j) = some u := by
  intro j u hj
  have hadd : (⟨x, 0, none⟩ : Addr).add j = ⟨x, j, none⟩ := by unfold Addr.add; split <;> simp_all
  rw [hadd]
  match j, hj with
  | 0, hj => simp [cW] at hj; subst hj; exact h0
  | 1, hj => simp [cW] at hj; subst hj; exact h1
  | n + 2, hj => simp [cW] at hj
theorem AtR.news {w : World} {R base n : Nat} {v : Value} {l : List Wk} (h : AtR w R base n v l) : (v = .slice none 0 0 ∧ l = []) ∨ ∃ ad c, v = .slice (some ad) l.length c ∧ ∀ j q, (cW l)[j]? = some q → w.cell? (ad.add j) = some q := by
  rcases h.row.2 with ⟨h1, h2⟩ | ⟨g, cap, cur, hv, _⟩
  · exact Or.inl ⟨h1, List.length_eq_zero_iff.1 h2⟩
  · refine Or.inr ⟨_, cap, hv, fun j q hq => ?_⟩
    have := h.row
    rw [hv] at this
    have e : (⟨g, 0, none⟩ : Addr).add j = ⟨g, j, none⟩ := by unfold Addr.add; split <;> simp_all
    rw [e, this.cellAt j (by rw [← cW_len]; exact (List.getElem?_eq_some_iff.1 hq).1)]
    exact hq
theorem lit0 (w : World) {base : Nat} (hb : base ≤ w.heap.size) : (w.alloc (.cells #[] 31)).ownsRow base 31 2 (.slice (some ⟨w.heap.size, 0, none⟩) 0 0) 0 (cW []) := World.ownsRow_lit w #[] 0 hb (by unfold maxLen; omega) rfl

theorem AtR.store {w : World} {R base n : Nat} {v v' : Value} {l l' : List Wk} (h : AtR w R base n v l) (ho : w.ownsRow base 31 2 v' l'.length (cW l')) : AtR (w.setCell ⟨R, 0, none⟩ v') R base n v' l' :=
  ⟨Lib.heap_setCell_same h.box v', owns_keep ho fun g hg => Below.heap_setCell _ _ _ _ (fun e => owns_far ho h.box (by decide) (by rw [hg]; exact congrArg some e))⟩
def NowR (R base n : Nat) (l : List Wk) (w w' : World) : Prop := ∃ v, AtR w' R base n v l ∧ Turn R w w'

set_option linter.unusedSimpArgs false in
set_option maxHeartbeats 4000000 in
theorem refPut_new (R base n : Nat) (va : Option Addr) (vc : Nat) (l : List Wk) (x y : Int) (hO : Ok n l) (hh : hasB l x = false) (hlt : l.length < n) (w : World) (hbs0 : base ≤ w.heap.size) (hR : AtR w R base n (.slice va l.length vc) l) :
    Calls Try.prog 10 #[.pointer (some ⟨R, 0, none⟩), .agg #[.int .i64 x, .int .i64 y]] w fun e w' => e = .returned (.bool true) ∧ NowR R base n (l ++ [⟨x, y⟩]) w w' := by
  have h8 : l.length < 8 := by have := hO.n8; omega
  have hn8 := hO.n8
  have HH := hide (hasB_false.1 hh)
  have HR0 := hide hR
  have hb0 := below1 w (.cells #[.int .i64 x, .int .i64 y] 31)
  have HB0 := hide hb0
  obtain ⟨W, hW⟩ : ∃ W, W = w.alloc (.cells #[.int .i64 x, .int .i64 y] 31) := ⟨_, rfl⟩
  obtain ⟨d, hd⟩ : ∃ d, d = w.heap.size := ⟨_, rfl⟩
  have hHR : Hid (AtR W R base n (.slice va l.length vc) l) := hW ▸ hR.below hb0
  have HR := hHR
  have x0 : W.cell? ⟨d, 0, none⟩ = some (.int .i64 x) := hd ▸ hW ▸ Lib.cell_of_heap (heap_alloc_new _ _) 0
  have x1 : W.cell? ⟨d, 1, none⟩ = some (.int .i64 y) := hd ▸ hW ▸ Lib.cell_of_heap (heap_alloc_new _ _) 1
  have hdl : d < W.heap.size := by rw [hW, hd]; simp
  have HBW : Hid (Below w.heap.size w W) := hW ▸ hb0
  have hbW : base ≤ W.heap.size := Nat.le_trans hbs0 HBW.out.size
  have HKEEP : Hid (∀ W', Below W.heap.size W W' → W'.cell? ⟨R, 0, none⟩ = some (.slice va l.length vc) ∧ W'.cell? ⟨R, 1, none⟩ = some (.int .i64 (n : Int)) ∧ W'.cell? ⟨d, 0, none⟩ = some (.int .i64 x) ∧ W'.cell? ⟨d, 1, none⟩ = some (.int .i64 y)) :=
    hide fun W' k => ⟨(HR.out.below k).cells.1, (HR.out.below k).cells.2.1, (k.cell (p := ⟨d, 0, none⟩) hdl).trans x0, (k.cell (p := ⟨d, 1, none⟩) hdl).trans x1⟩
  clear hR hb0 x0 x1 hh hHR hO
  go_enter Try.func10, Try.ntmps10
  go_wp2_with fail
  rw [← hW, ← hd]
  clear hW hd
  go_loopw [5] (fun i wr => ∃ k : Nat, k ≤ l.length ∧ i = .int .i64 k ∧ Below W.heap.size W wr) (fun i _ => l.length - (intOf i).toNat)
  case atStart => exact ⟨0, Nat.zero_le _, rfl, Below.refl _ _⟩
  case round =>
    obtain ⟨k, hk, rfl, hB⟩ := hrel
    obtain ⟨r0, r1, y0, y1⟩ := HKEEP.out wr hB
    by_cases hkl : k < l.length
    · have hne : l ≠ [] := fun e => by rw [e] at hkl; simp at hkl
      obtain ⟨g, rfl, hg, q⟩ := (owns_rowA (HR.out.below hB).row) hne
      obtain ⟨p1, p2⟩ := q k hkl
      have hx : ((wk l k).t == x) = false := by simpa using HH.out k hkl
      have d1 : (k : Int) < (l.length : Int) := by omega
      have d0 : (0 : Int) ≤ (k : Int) := by omega
      clear q hne hlt
      generalize (wk l k).t = X at *
      generalize (wk l k).e = Y at *
      go_wp2_with fail
      go_quiet (fail)
      go_wp2
      go_roundw
      case rel => exact ⟨k + 1, by omega, by go_num, hB.trans (below_drewN _ _)⟩
      case measure => simp [intOf]; omega
    · have hz : ¬ ((n : Int) ≤ (l.length : Int)) := by omega
      go_wp2_with fail
      go_quiet (fail)
      go_wp2_with fail
      generalize hwq : wr.drewN _ = wq
      have hBq : Below W.heap.size W wq := by rw [← hwq]; exact hB.trans (below_drewN _ _)
      clear hwq hB r0 r1 y0 y1 wr
      obtain ⟨wr, hwr⟩ : ∃ wr, wr = wq := ⟨_, rfl⟩
      rw [← hwr] at hBq ⊢
      clear hwr wq
      obtain ⟨r0, r1, y0, y1⟩ := HKEEP.out wr hBq
      have HS : Hid (∀ W', Below wr.heap.size wr W' → Below wr.heap.size wr W' ∧ W'.cell? ⟨R, 0, none⟩ = some (.slice va l.length vc) ∧ W'.cell? ⟨d, 0, none⟩ = some (.int .i64 x) ∧ W'.cell? ⟨d, 1, none⟩ = some (.int .i64 y)) :=
        hide fun W' k => by have q := HKEEP.out W' (hBq.trans (k.mono hBq.size)); exact ⟨k, q.1, q.2.2.1, q.2.2.2⟩
      have HU : Hid (∀ W', Below wr.heap.size wr W' → _) := hide fun W' k => (HR.out.below (hBq.trans (k.mono hBq.size))).news
      have hbs : base ≤ wr.heap.size := Nat.le_trans hbW hBq.size
      have E1 := hide (lit0 wr hbs).drew
      have E2 := hide (((lit0 wr hbs).alloc (.cells #[.int .i64 x, .int .i64 y] 31)).drew)
      have E3 : Hid (((wr.alloc (.cells #[.int .i64 x, .int .i64 y] 31)).alloc (.cells #[] 31)).drew.ownsRow base 31 2 (.slice (some ⟨wr.heap.size + 1, 0, none⟩) 0 0) 0 (cW [])) := hide (by have h := (lit0 (wr.alloc (.cells #[.int .i64 x, .int .i64 y] 31)) (base := base) (by simp; omega)).drew; simpa using h)
      have HAT : Hid (∀ W', Below wr.heap.size wr W' → AtR W' R base n (.slice va l.length vc) l) := hide fun W' k => HR.out.below (hBq.trans (k.mono hBq.size))
      have XA : Hid (((wr.alloc (.cells #[.int .i64 x, .int .i64 y] 31)).alloc (.cells #[] 31)).drew.cell? ⟨wr.heap.size, 0, none⟩ = some (.int .i64 x) ∧ ((wr.alloc (.cells #[.int .i64 x, .int .i64 y] 31)).alloc (.cells #[] 31)).drew.cell? ⟨wr.heap.size, 1, none⟩ = some (.int .i64 y)) := hide (by
        have hb := ((Below.refl (wr.alloc (.cells #[.int .i64 x, .int .i64 y] 31)).heap.size (wr.alloc (.cells #[.int .i64 x, .int .i64 y] 31))).alloc (Nat.le_refl _) (.cells #[] 31)).drew
        exact ⟨(hb.cell (p := ⟨wr.heap.size, 0, none⟩) (by simp)).trans (by simp), (hb.cell (p := ⟨wr.heap.size, 1, none⟩) (by simp)).trans (by simp)⟩)
      have HFIN : Hid (∀ W' v', Below wr.heap.size wr W' → W'.ownsRow base 31 2 v' (l ++ [(⟨x, y⟩ : Wk)]).length (cW (l ++ [(⟨x, y⟩ : Wk)])) → NowR R base n (l ++ [⟨x, y⟩]) w (W'.setCell ⟨R, 0, none⟩ v')) := hide fun W' v' k ho =>
        ⟨v', (HAT.out W' k).store ho, (Turn.of_below (B := R) HBW.out).trans ((Turn.of_below (hBq.trans (k.mono hBq.size))).set _ _)⟩
      refine wp_region_noPanic ?_
      refine wp_region_last_drew (L := 12) (S := fun w' => Below wr.heap.size wr w' ∧ w'.cell? ⟨R, 0, none⟩ = some (.slice va l.length vc) ∧ w'.cell? ⟨d, 0, none⟩ = some (.int .i64 x) ∧ w'.cell? ⟨d, 1, none⟩ = some (.int .i64 y)) (by kernel_rfl) ?_ (fun hHeld => ?_)
      · exact HS.out _ (Below.refl _ _).drew
      refine wpAnyL_take (i := 0) (v := ?_) rfl (by kernel_rfl) (by kernel_rfl) (by kernel_rfl) (by kernel_rfl) (fun _ _ _ h => h) (Or.inl ⟨by rfl, ?_⟩) (by first | trivial | assumption) ?_
      rotate_left 1
      · (intro w hSw; (try dsimp only at hSw); go_simp; all_goals with_reducible rfl)
      try simp only [Act.put, List.setIfInBounds_toArray, List.set_cons_zero, List.set_cons_succ]
      refine wpAnyL_take (i := 2) (v := ?_) rfl (by kernel_rfl) (by kernel_rfl) (by kernel_rfl) (by kernel_rfl) (fun _ _ _ h => h) (Or.inl ⟨by rfl, ?_⟩) (by first | trivial | assumption) ?_
      rotate_left 1
      · (intro w hSw; (try dsimp only at hSw); go_simp; all_goals with_reducible rfl)
      try simp only [Act.put, List.setIfInBounds_toArray, List.set_cons_zero, List.set_cons_succ]
      refine wpAnyL_take (i := 3) (v := ?_) rfl (by kernel_rfl) (by kernel_rfl) (by kernel_rfl) (by kernel_rfl) (fun _ _ _ h => h) (Or.inl ⟨by rfl, ?_⟩) (by first | trivial | assumption) ?_
      rotate_left 1
      · (intro w hSw; (try dsimp only at hSw); go_simp; all_goals with_reducible rfl)
      try simp only [Act.put, List.setIfInBounds_toArray, List.set_cons_zero, List.set_cons_succ]
      refine wpAnyL_take (i := 4) (v := ?_) rfl (by kernel_rfl) (by kernel_rfl) (by kernel_rfl) (by kernel_rfl) (fun _ _ _ h => h) (Or.inl ⟨by rfl, ?_⟩) (by first | trivial | assumption) ?_
      rotate_left 1
      · (intro w hSw; (try dsimp only at hSw); go_simp; all_goals with_reducible rfl)
      try simp only [Act.put, List.setIfInBounds_toArray, List.set_cons_zero, List.set_cons_succ]
      refine wpAnyL_take (i := 5) (v := ?_) rfl (by kernel_rfl) (by kernel_rfl) (by kernel_rfl) (by kernel_rfl) (fun _ _ _ h => h) (Or.inl ⟨by rfl, ?_⟩) (by first | trivial | assumption) ?_
      rotate_left 1
      · (intro w hSw; (try dsimp only at hSw); go_simp; all_goals with_reducible rfl)
      try simp only [Act.put, List.setIfInBounds_toArray, List.set_cons_zero, List.set_cons_succ]
      refine wpAnyL_take (i := 7) (v := ?_) rfl (by kernel_rfl) (by kernel_rfl) (by kernel_rfl) (by kernel_rfl) (fun _ _ _ h => h) (Or.inl ⟨by rfl, ?_⟩) (by first | trivial | assumption) ?_
      rotate_left 1
      · (intro w hSw; (try dsimp only at hSw); go_simp; all_goals with_reducible rfl)
      try simp only [Act.put, List.setIfInBounds_toArray, List.set_cons_zero, List.set_cons_succ]
      refine wpAnyL_ready (rs := [1, 8]) (by kernel_rfl) (by simp) ?_
      refine AllReadyL.cons rfl (fun K hK => ?_) ?_
      · (go_simp)
        refine hK.out _ _ ?_ (fun hHeld => ?_)
        · (first | assumption | (refine HS.out _ ?_; repeat (first | assumption | exact Below.refl _ _ | refine Below.alloc ?_ (by first | omega | (simp <;> omega)) _ | refine Below.drew ?_)))
        clear hK K
        try simp only [Act.put, List.setIfInBounds_toArray, List.set_cons_zero, List.set_cons_succ]
        refine wpAnyL_ready (rs := [6, 8]) (by kernel_rfl) (by simp) ?_
        refine AllReadyL.cons rfl (fun K hK => ?_) ?_
        · (refine step_copy_row _ (by rfl) _ _ (by rfl) base (.slice (some ⟨_, 0, none⟩) 0 0) (by rfl) (by first | exact E1.out | exact E2.out | exact E3.out) (.slice va l.length vc) l (by rfl) (HU.out _ (left_of hHeld)) (by omega) (by first | exact hbs | (simp; omega)) ?_; intro ad5 cap5 w5 hown5 hgrow5 hat5; have hB5 : Below wr.heap.size wr w5 := Below.grown (left_of hHeld) hgrow5 (by first | omega | (simp <;> omega)) (by intro q hq; simp [Value.ownBlock] at hq; omega); have hz5 := hB5.size; have hq5 : ∀ q, (Value.slice ad5 l.length cap5).ownBlock = some q → wr.heap.size ≤ q := (by intro q hq; rcases hat5 with h | h <;> (rw [hq] at h; simp [Value.ownBlock] at h; omega)))
          refine hK.out _ _ ?_ (fun hHeld => ?_)
          · (first | assumption | (refine HS.out _ ?_; repeat (first | assumption | exact Below.refl _ _ | refine Below.alloc ?_ (by first | omega | (simp <;> omega)) _ | refine Below.drew ?_)))
          clear hK K
          try simp only [Act.put, List.setIfInBounds_toArray, List.set_cons_zero, List.set_cons_succ]
          refine wpAnyL_ready (rs := [8]) (by kernel_rfl) (by simp) ?_
          refine AllReadyL.cons rfl (fun K hK => ?_) ?_
          · (go_simp)
            refine hK.out _ _ ?_ (fun hHeld => ?_)
            · (first | assumption | (refine HS.out _ ?_; repeat (first | assumption | exact Below.refl _ _ | refine Below.alloc ?_ (by first | omega | (simp <;> omega)) _ | refine Below.drew ?_)))
            clear hK K
            try simp only [Act.put, List.setIfInBounds_toArray, List.set_cons_zero, List.set_cons_succ]
            refine wpAnyL_ready (rs := [9]) (by kernel_rfl) (by simp) ?_
            refine AllReadyL.cons rfl (fun K hK => ?_) ?_
            · (refine step_append_row _ (by rfl) _ _ (by rfl) base (.slice ad5 l.length cap5) l.length l (by rfl) (by first | exact hown5 | exact hown5.alloc _) (.slice (some ⟨_, 0, none⟩) 1 1) [⟨x, y⟩] (by rfl) (Or.inr ⟨_, _, rfl, by first | (exact new2 (by simp; done) (by simp; done)) | (exact new2 ((World.cell?_of_block (hgrow5.block _ (by first | (simp; done) | (simp; omega)) (by first | (simp [Value.ownBlock]; done) | (simp [Value.ownBlock]; omega)))).trans (by first | exact XA.out.1 | (simp; done))) ((World.cell?_of_block (hgrow5.block _ (by first | (simp; done) | (simp; omega)) (by first | (simp [Value.ownBlock]; done) | (simp [Value.ownBlock]; omega)))).trans (by first | exact XA.out.2 | (simp; done))))⟩) (by simp; omega) (by first | exact Nat.le_trans hbs hz5 | (simp; omega)) ?_; intro ad6 cap6 w6 hown6 hgrow6 hat6; have hB6 : Below wr.heap.size wr w6 := Below.grown (left_of hHeld) hgrow6 (by first | omega | (simp; omega)) (by intro q hq; exact hq5 q hq); obtain ⟨rc6, _, rf6'⟩ := (HAT.out _ hB6).cells; have rf6 := rf6' 0; clear rf6')
              refine hK.out _ _ ?_ (fun hHeld => ?_)
              · (first | assumption | (refine HS.out _ ?_; repeat (first | assumption | exact Below.refl _ _ | refine Below.alloc ?_ (by first | omega | (simp <;> omega)) _ | refine Below.drew ?_)))
              clear hK K
              try simp only [Act.put, List.setIfInBounds_toArray, List.set_cons_zero, List.set_cons_succ]
              refine wpAnyL_ready (rs := [10]) (by kernel_rfl) (by simp) ?_
              refine AllReadyL.cons rfl (fun K hK => ?_) ?_
              · go_simp
                refine hK.out _ _ ?_ (fun hHeld => ?_)
                · (first | assumption | (refine HS.out _ ?_; repeat (first | assumption | exact Below.refl _ _ | refine Below.alloc ?_ (by first | omega | (simp <;> omega)) _ | refine Below.drew ?_)))
                clear hK K
                try simp only [Act.put, List.setIfInBounds_toArray, List.set_cons_zero, List.set_cons_succ]
                refine wpAnyL_take (i := 11) (v := ?_) rfl (by kernel_rfl) (by kernel_rfl) (by kernel_rfl) (by kernel_rfl) (fun _ _ _ h => h) (Or.inl ⟨by rfl, ?_⟩) (by first | trivial | assumption) ?_
                rotate_left 1
                · (intro w hSw; (try dsimp only at hSw); go_simp; all_goals with_reducible rfl)
                try simp only [Act.put, List.setIfInBounds_toArray, List.set_cons_zero, List.set_cons_succ]
                refine wpAnyL_ready (rs := [12]) (by kernel_rfl) (by simp) ?_
                refine AllReadyL.last rfl (fun K hK => ?_)
                go_simp
                refine hK.out _ _ ?_
                clear hK K
                try simp only [Act.put, List.setIfInBounds_toArray, List.set_cons_zero, List.set_cons_succ]
                refine wpAnyL_done (by kernel_rfl) ?_ _
                (refine NoPanic.normal ?_; (have HF := hide (HFIN.out _ _ hB6 (by simpa using hown6))); clear hown5 hgrow5 hat5 hown6 hgrow6 hat6 hB5 hB6 hq5 hz5 rc6 E1 E2 E3 XA hHeld; go_wp2; go_ret; exact ⟨rfl, HF.out⟩)
              exact AllReadyL.nil
            exact AllReadyL.nil
          exact AllReadyL.nil
        refine AllReadyL.cons rfl (fun K hK => ?_) ?_
        · (go_simp)
          refine hK.out _ _ ?_ (fun hHeld => ?_)
          · (first | assumption | (refine HS.out _ ?_; repeat (first | assumption | exact Below.refl _ _ | refine Below.alloc ?_ (by first | omega | (simp <;> omega)) _ | refine Below.drew ?_)))
          clear hK K
          try simp only [Act.put, List.setIfInBounds_toArray, List.set_cons_zero, List.set_cons_succ]
          refine wpAnyL_ready (rs := [6]) (by kernel_rfl) (by simp) ?_
          refine AllReadyL.cons rfl (fun K hK => ?_) ?_
          · (refine step_copy_row _ (by rfl) _ _ (by rfl) base (.slice (some ⟨_, 0, none⟩) 0 0) (by rfl) (by first | exact E1.out | exact E2.out | exact E3.out) (.slice va l.length vc) l (by rfl) (HU.out _ (left_of hHeld)) (by omega) (by first | exact hbs | (simp; omega)) ?_; intro ad5 cap5 w5 hown5 hgrow5 hat5; have hB5 : Below wr.heap.size wr w5 := Below.grown (left_of hHeld) hgrow5 (by first | omega | (simp <;> omega)) (by intro q hq; simp [Value.ownBlock] at hq; omega); have hz5 := hB5.size; have hq5 : ∀ q, (Value.slice ad5 l.length cap5).ownBlock = some q → wr.heap.size ≤ q := (by intro q hq; rcases hat5 with h | h <;> (rw [hq] at h; simp [Value.ownBlock] at h; omega)))
            refine hK.out _ _ ?_ (fun hHeld => ?_)
            · (first | assumption | (refine HS.out _ ?_; repeat (first | assumption | exact Below.refl _ _ | refine Below.alloc ?_ (by first | omega | (simp <;> omega)) _ | refine Below.drew ?_)))
            clear hK K
            try simp only [Act.put, List.setIfInBounds_toArray, List.set_cons_zero, List.set_cons_succ]
            refine wpAnyL_ready (rs := [9]) (by kernel_rfl) (by simp) ?_
            refine AllReadyL.cons rfl (fun K hK => ?_) ?_
            · (refine step_append_row _ (by rfl) _ _ (by rfl) base (.slice ad5 l.length cap5) l.length l (by rfl) (by first | exact hown5 | exact hown5.alloc _) (.slice (some ⟨_, 0, none⟩) 1 1) [⟨x, y⟩] (by rfl) (Or.inr ⟨_, _, rfl, by first | (exact new2 (by simp; done) (by simp; done)) | (exact new2 ((World.cell?_of_block (hgrow5.block _ (by first | (simp; done) | (simp; omega)) (by first | (simp [Value.ownBlock]; done) | (simp [Value.ownBlock]; omega)))).trans (by first | exact XA.out.1 | (simp; done))) ((World.cell?_of_block (hgrow5.block _ (by first | (simp; done) | (simp; omega)) (by first | (simp [Value.ownBlock]; done) | (simp [Value.ownBlock]; omega)))).trans (by first | exact XA.out.2 | (simp; done))))⟩) (by simp; omega) (by first | exact Nat.le_trans hbs hz5 | (simp; omega)) ?_; intro ad6 cap6 w6 hown6 hgrow6 hat6; have hB6 : Below wr.heap.size wr w6 := Below.grown (left_of hHeld) hgrow6 (by first | omega | (simp; omega)) (by intro q hq; exact hq5 q hq); obtain ⟨rc6, _, rf6'⟩ := (HAT.out _ hB6).cells; have rf6 := rf6' 0; clear rf6')
              refine hK.out _ _ ?_ (fun hHeld => ?_)
              · (first | assumption | (refine HS.out _ ?_; repeat (first | assumption | exact Below.refl _ _ | refine Below.alloc ?_ (by first | omega | (simp <;> omega)) _ | refine Below.drew ?_)))
              clear hK K
              try simp only [Act.put, List.setIfInBounds_toArray, List.set_cons_zero, List.set_cons_succ]
              refine wpAnyL_ready (rs := [10]) (by kernel_rfl) (by simp) ?_
              refine AllReadyL.cons rfl (fun K hK => ?_) ?_
              · go_simp
                refine hK.out _ _ ?_ (fun hHeld => ?_)
                · (first | assumption | (refine HS.out _ ?_; repeat (first | assumption | exact Below.refl _ _ | refine Below.alloc ?_ (by first | omega | (simp <;> omega)) _ | refine Below.drew ?_)))
                clear hK K
                try simp only [Act.put, List.setIfInBounds_toArray, List.set_cons_zero, List.set_cons_succ]
                refine wpAnyL_take (i := 11) (v := ?_) rfl (by kernel_rfl) (by kernel_rfl) (by kernel_rfl) (by kernel_rfl) (fun _ _ _ h => h) (Or.inl ⟨by rfl, ?_⟩) (by first | trivial | assumption) ?_
                rotate_left 1
                · (intro w hSw; (try dsimp only at hSw); go_simp; all_goals with_reducible rfl)
                try simp only [Act.put, List.setIfInBounds_toArray, List.set_cons_zero, List.set_cons_succ]
                refine wpAnyL_ready (rs := [12]) (by kernel_rfl) (by simp) ?_
                refine AllReadyL.last rfl (fun K hK => ?_)
                go_simp
                refine hK.out _ _ ?_
                clear hK K
                try simp only [Act.put, List.setIfInBounds_toArray, List.set_cons_zero, List.set_cons_succ]
                refine wpAnyL_done (by kernel_rfl) ?_ _
                (refine NoPanic.normal ?_; (have HF := hide (HFIN.out _ _ hB6 (by simpa using hown6))); clear hown5 hgrow5 hat5 hown6 hgrow6 hat6 hB5 hB6 hq5 hz5 rc6 E1 E2 E3 XA hHeld; go_wp2; go_ret; exact ⟨rfl, HF.out⟩)
              exact AllReadyL.nil
            exact AllReadyL.nil
          exact AllReadyL.nil
        exact AllReadyL.nil
      refine AllReadyL.cons rfl (fun K hK => ?_) ?_
      · (go_simp)
        refine hK.out _ _ ?_ (fun hHeld => ?_)
        · (first | assumption | (refine HS.out _ ?_; repeat (first | assumption | exact Below.refl _ _ | refine Below.alloc ?_ (by first | omega | (simp <;> omega)) _ | refine Below.drew ?_)))
        clear hK K
        try simp only [Act.put, List.setIfInBounds_toArray, List.set_cons_zero, List.set_cons_succ]
        refine wpAnyL_ready (rs := [1]) (by kernel_rfl) (by simp) ?_
        refine AllReadyL.cons rfl (fun K hK => ?_) ?_
        · (go_simp)
          refine hK.out _ _ ?_ (fun hHeld => ?_)
          · (first | assumption | (refine HS.out _ ?_; repeat (first | assumption | exact Below.refl _ _ | refine Below.alloc ?_ (by first | omega | (simp <;> omega)) _ | refine Below.drew ?_)))
          clear hK K
          try simp only [Act.put, List.setIfInBounds_toArray, List.set_cons_zero, List.set_cons_succ]
          refine wpAnyL_ready (rs := [6]) (by kernel_rfl) (by simp) ?_
          refine AllReadyL.cons rfl (fun K hK => ?_) ?_
          · (refine step_copy_row _ (by rfl) _ _ (by rfl) base (.slice (some ⟨_, 0, none⟩) 0 0) (by rfl) (by first | exact E1.out | exact E2.out | exact E3.out) (.slice va l.length vc) l (by rfl) (HU.out _ (left_of hHeld)) (by omega) (by first | exact hbs | (simp; omega)) ?_; intro ad5 cap5 w5 hown5 hgrow5 hat5; have hB5 : Below wr.heap.size wr w5 := Below.grown (left_of hHeld) hgrow5 (by first | omega | (simp <;> omega)) (by intro q hq; simp [Value.ownBlock] at hq; omega); have hz5 := hB5.size; have hq5 : ∀ q, (Value.slice ad5 l.length cap5).ownBlock = some q → wr.heap.size ≤ q := (by intro q hq; rcases hat5 with h | h <;> (rw [hq] at h; simp [Value.ownBlock] at h; omega)))
            refine hK.out _ _ ?_ (fun hHeld => ?_)
            · (first | assumption | (refine HS.out _ ?_; repeat (first | assumption | exact Below.refl _ _ | refine Below.alloc ?_ (by first | omega | (simp <;> omega)) _ | refine Below.drew ?_)))
            clear hK K
            try simp only [Act.put, List.setIfInBounds_toArray, List.set_cons_zero, List.set_cons_succ]
            refine wpAnyL_ready (rs := [9]) (by kernel_rfl) (by simp) ?_
            refine AllReadyL.cons rfl (fun K hK => ?_) ?_
            · (refine step_append_row _ (by rfl) _ _ (by rfl) base (.slice ad5 l.length cap5) l.length l (by rfl) (by first | exact hown5 | exact hown5.alloc _) (.slice (some ⟨_, 0, none⟩) 1 1) [⟨x, y⟩] (by rfl) (Or.inr ⟨_, _, rfl, by first | (exact new2 (by simp; done) (by simp; done)) | (exact new2 ((World.cell?_of_block (hgrow5.block _ (by first | (simp; done) | (simp; omega)) (by first | (simp [Value.ownBlock]; done) | (simp [Value.ownBlock]; omega)))).trans (by first | exact XA.out.1 | (simp; done))) ((World.cell?_of_block (hgrow5.block _ (by first | (simp; done) | (simp; omega)) (by first | (simp [Value.ownBlock]; done) | (simp [Value.ownBlock]; omega)))).trans (by first | exact XA.out.2 | (simp; done))))⟩) (by simp; omega) (by first | exact Nat.le_trans hbs hz5 | (simp; omega)) ?_; intro ad6 cap6 w6 hown6 hgrow6 hat6; have hB6 : Below wr.heap.size wr w6 := Below.grown (left_of hHeld) hgrow6 (by first | omega | (simp; omega)) (by intro q hq; exact hq5 q hq); obtain ⟨rc6, _, rf6'⟩ := (HAT.out _ hB6).cells; have rf6 := rf6' 0; clear rf6')
              refine hK.out _ _ ?_ (fun hHeld => ?_)
              · (first | assumption | (refine HS.out _ ?_; repeat (first | assumption | exact Below.refl _ _ | refine Below.alloc ?_ (by first | omega | (simp <;> omega)) _ | refine Below.drew ?_)))
              clear hK K
              try simp only [Act.put, List.setIfInBounds_toArray, List.set_cons_zero, List.set_cons_succ]
              refine wpAnyL_ready (rs := [10]) (by kernel_rfl) (by simp) ?_
              refine AllReadyL.cons rfl (fun K hK => ?_) ?_
              · go_simp
                refine hK.out _ _ ?_ (fun hHeld => ?_)
                · (first | assumption | (refine HS.out _ ?_; repeat (first | assumption | exact Below.refl _ _ | refine Below.alloc ?_ (by first | omega | (simp <;> omega)) _ | refine Below.drew ?_)))
                clear hK K
                try simp only [Act.put, List.setIfInBounds_toArray, List.set_cons_zero, List.set_cons_succ]
                refine wpAnyL_take (i := 11) (v := ?_) rfl (by kernel_rfl) (by kernel_rfl) (by kernel_rfl) (by kernel_rfl) (fun _ _ _ h => h) (Or.inl ⟨by rfl, ?_⟩) (by first | trivial | assumption) ?_
                rotate_left 1
                · (intro w hSw; (try dsimp only at hSw); go_simp; all_goals with_reducible rfl)
                try simp only [Act.put, List.setIfInBounds_toArray, List.set_cons_zero, List.set_cons_succ]
                refine wpAnyL_ready (rs := [12]) (by kernel_rfl) (by simp) ?_
                refine AllReadyL.last rfl (fun K hK => ?_)
                go_simp
                refine hK.out _ _ ?_
                clear hK K
                try simp only [Act.put, List.setIfInBounds_toArray, List.set_cons_zero, List.set_cons_succ]
                refine wpAnyL_done (by kernel_rfl) ?_ _
                (refine NoPanic.normal ?_; (have HF := hide (HFIN.out _ _ hB6 (by simpa using hown6))); clear hown5 hgrow5 hat5 hown6 hgrow6 hat6 hB5 hB6 hq5 hz5 rc6 E1 E2 E3 XA hHeld; go_wp2; go_ret; exact ⟨rfl, HF.out⟩)
              exact AllReadyL.nil
            exact AllReadyL.nil
          exact AllReadyL.nil
        exact AllReadyL.nil
      exact AllReadyL.nil

set_option maxHeartbeats 1000000 in
theorem refPut_full (R base n : Nat) (va : Option Addr) (vc : Nat) (l : List Wk) (x y : Int) (h8 : l.length ≤ 8) (hno : putB n l ⟨x, y⟩ = false) (w : World) (hR : AtR w R base n (.slice va l.length vc) l) :
    Calls Try.prog 10 #[.pointer (some ⟨R, 0, none⟩), .agg #[.int .i64 x, .int .i64 y]] w fun e w' => e = .returned (.bool false) ∧ Below w.heap.size w w' := by
  have HNO := hide hno
  have hb0 := below1 w (.cells #[.int .i64 x, .int .i64 y] 31)
  obtain ⟨W, hW⟩ : ∃ W, W = w.alloc (.cells #[.int .i64 x, .int .i64 y] 31) := ⟨_, rfl⟩
  obtain ⟨d, hd⟩ : ∃ d, d = w.heap.size := ⟨_, rfl⟩
  have HR : Hid (AtR W R base n (.slice va l.length vc) l) := hW ▸ hR.below hb0
  have x0 : W.cell? ⟨d, 0, none⟩ = some (.int .i64 x) := hd ▸ hW ▸ Lib.cell_of_heap (heap_alloc_new _ _) 0
  have hdl : d < W.heap.size := by rw [hW, hd]; simp
  have HBW : Hid (Below w.heap.size w W) := hW ▸ hb0
  have HKEEP : Hid (∀ W', Below W.heap.size W W' → W'.cell? ⟨R, 0, none⟩ = some (.slice va l.length vc) ∧ W'.cell? ⟨R, 1, none⟩ = some (.int .i64 (n : Int)) ∧ W'.cell? ⟨d, 0, none⟩ = some (.int .i64 x)) :=
    hide fun W' k => ⟨(HR.out.below k).cells.1, (HR.out.below k).cells.2.1, (k.cell (p := ⟨d, 0, none⟩) hdl).trans x0⟩
  clear hR hb0 x0 hno
  go_enter Try.func10, Try.ntmps10
  go_wp2_with fail
  rw [← hW, ← hd]
  clear hW hd
  go_loopw [5] (fun i wr => ∃ k : Nat, k ≤ l.length ∧ i = .int .i64 k ∧ Below W.heap.size W wr ∧ Hid (∀ j, j < k → (wk l j).t ≠ x)) (fun i _ => l.length - (intOf i).toNat)
  case atStart => exact ⟨0, Nat.zero_le _, rfl, Below.refl _ _, fun j hj => absurd hj (by omega)⟩
  case round =>
    obtain ⟨k, hk, rfl, hB, HH⟩ := hrel
    obtain ⟨r0, r1, y0⟩ := HKEEP.out wr hB
    by_cases hkl : k < l.length
    · have hne : l ≠ [] := fun e => by rw [e] at hkl; simp at hkl
      obtain ⟨g, rfl, hg, q⟩ := (owns_rowA (HR.out.below hB).row) hne
      obtain ⟨p1, p2⟩ := q k hkl
      have d1 : (k : Int) < (l.length : Int) := by omega
      have d0 : (0 : Int) ≤ (k : Int) := by omega
      clear q hne
      cases hx : ((wk l k).t == x)
      · have HH2 : Hid (∀ j, j < k + 1 → (wk l j).t ≠ x) := fun j hj => by
          by_cases e : j = k
          · subst e; simpa using hx
          · exact HH.out j (by omega)
        generalize (wk l k).t = X at *
        generalize (wk l k).e = Y at *
        go_wp2_with fail
        go_quiet (fail)
        go_wp2
        go_roundw
        case rel => exact ⟨k + 1, by omega, by go_num, hB.trans (below_drewN _ _), HH2⟩
        case measure => simp [intOf]; omega
      · generalize (wk l k).t = X at *
        generalize (wk l k).e = Y at *
        go_wp2_with fail
        go_quiet (fail)
        go_wp2
        go_ret
        exact ⟨rfl, below_next HBW.out (hB.trans (below_drewN _ _))⟩
    · have hz : (n : Int) ≤ (l.length : Int) := by
        have h1 := HNO.out
        have h2 : hasB l x = false := hasB_false.2 fun j hj => HH.out j (by omega)
        unfold putB at h1
        simp only [h2] at h1
        have : ¬ l.length < n := by simpa using h1
        omega
      go_wp2_with fail
      go_quiet (fail)
      go_wp2
      go_ret
      exact ⟨rfl, below_next HBW.out (hB.trans (below_drewN _ _))⟩

/-- Put of the document's, of any buffer. -/
theorem refPut_any (R base n : Nat) (v : Value) (l : List Wk) (x : Wk) (hO : Ok n l) (w : World) (hbs : base ≤ w.heap.size) (hR : AtR w R base n v l) :
    Calls Try.prog 10 #[.pointer (some ⟨R, 0, none⟩), .agg #[.int .i64 x.t, .int .i64 x.e]] w fun e w' => e = .returned (.bool (putB n l x)) ∧ ∃ v', AtR w' R base n v' (putL n l x) ∧ Turn R w w' := by
  obtain ⟨va, vc, rfl⟩ := hR.form
  obtain ⟨x, y⟩ := x
  cases hb : putB n l ⟨x, y⟩
  · rw [putL_no hb]
    exact (refPut_full R base n va vc l x y (by have := hO.len; have := hO.n8; omega) hb w hR).mono fun e w' ⟨k1, k2⟩ => ⟨k1, _, hR.below k2, Turn.of_below k2⟩
  · rw [putL_yes hb]
    have hb' := hb
    unfold putB at hb'
    rw [Bool.and_eq_true, decide_eq_true_eq, Bool.not_eq_true'] at hb'
    exact refPut_new R base n va vc l x y hO hb'.2 hb'.1 w hbs hR

end Go.Proofs.Ytiookbmffdmdeaa
