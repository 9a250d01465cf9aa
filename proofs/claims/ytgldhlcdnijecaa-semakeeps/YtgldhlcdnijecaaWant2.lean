/-
  What the document's Want comes to.
-/
import Derived.Test.YtgldhlcdnijecaaWant
namespace Go.Proofs.Ytgldhlcdnijecaa
open Go.RowKit


set_option maxRecDepth 20000 in
set_option maxHeartbeats 8000000 in
set_option linter.unusedSimpArgs false in
theorem want_fitsF (R base : Nat) (u : Vs) (s : Sm) (hO : Okw s) (hl : s.q.length ≤ 1000) (t m : Int) (h1 : ¬ t < 1) (h2 : may s m) (h3 : inZ (ts s.q) t = false) (h4 : s.q = []) (h5 : m ≤ s.f) (w : World) (hR : AtR w R base u s) (hbs : base ≤ w.heap.size) :
    Calls Try.prog 21 #[.pointer (some ⟨R, 0, none⟩), .int .i64 t, .int .i64 m, .bool false] w fun e w' => e = .returned (.int .i64 0) ∧ NowR R base u ⟨s.n, s.f - m, s.q⟩ w w' := by
  have A := at_any R base u s hl t w hR
  rw [idx_out h3] at A
  have HA := hide A
  obtain ⟨c0, c1, c2, c3, cf⟩ := hR.cells
  have cf2 := cf 2
  have cf3 := cf 3
  have hRl := hR.lt
  obtain ⟨av, ac, bv, bc, hv⟩ := hR.forms
  have hu : u.a = .slice av s.q.length ac ∧ u.b = .slice bv s.q.length bc := by rw [hv]; exact ⟨rfl, rfl⟩
  rw [hu.1] at c2
  rw [hu.2] at c3
  have hzl : RowZ w av (ts s.q) := owns_rowZ (c := ac) (l := ts s.q) (by rw [ts_len, ← hu.1]; exact hR.ra)
  have hzm : RowZ w bv (us s.q) := owns_rowZ (c := bc) (l := us s.q) (by rw [us_len, ← hu.2]; exact hR.rb)
  have HZL := hide hzl
  have HZM := hide hzm
  have HR := hide hR
  have m1 : decide (m < 1) = false := decide_eq_false (by have := h2.1; omega)
  have m2 : decide (s.n < m) = false := decide_eq_false (by have := h2.2; omega)
  have p1 : IntKind.i64.wrap (s.n - s.f + m) = s.n - s.f + m := wrapB (by have := hO.f0; have := hO.fn; have := hO.n16; have := h2.1; have := h2.2; omega)
  obtain ⟨E, hE⟩ : ∃ E, s.n - s.f + m = E := ⟨_, rfl⟩
  have p2 : decide (s.n < E) = false := decide_eq_false (by omega)
  rw [hE] at p1
  have p3 : IntKind.i64.wrap (s.n - s.f + m) = E := by rw [hE]; exact p1
  clear hE p1
  obtain ⟨L, hL⟩ : ∃ L, s.q.length = L := ⟨_, rfl⟩
  have HL := hide hL
  have HTL : Hid ((ts s.q).length = L) := hide (by rw [ts_len]; exact hL)
  have HUL : Hid ((us s.q).length = L) := hide (by rw [us_len]; exact hL)
  rw [hL] at c2 c3 hl
  have HS : Hid (∀ W', Below w.heap.size w W' → Below w.heap.size w W' ∧ W'.cell? ⟨R, 2, none⟩ = some (.slice av L ac) ∧ W'.cell? ⟨R, 3, none⟩ = some (.slice bv L bc)) := hide fun W' k => by
    obtain ⟨_, _, d2, d3, _⟩ := (HR.out.below k).cells
    rw [hu.1, hL] at d2
    rw [hu.2, hL] at d3
    exact ⟨k, d2, d3⟩
  have hAt : AtR w R base u s := hR
  have HB0 := hide h2
  have HOK := hide hO
  clear A hR hv hu hzl hzm cf hL h2 hO h3 hAt
  have i0 : decide ((0 : Int) < (L : Int)) = false := decide_eq_false (by have := HL.out; rw [h4] at this; simp at this; omega)
  have i9 : decide (0 < L) = false := decide_eq_false (by have := HL.out; rw [h4] at this; simp at this; omega)
  go_enter Try.func21, Try.ntmps21
  go_wp2_with fail
  refine HA.out.mono ?_
  rintro e w2 ⟨rfl, hw2⟩
  subst hw2
  go_wp2_with fail
  go_quiet (fail)
  go_wp2_with fail
  clear HA c0 c1 m1 m2
  refine wp_region_noPanic ?_
  refine wp_region_last_drew (A := fun i => decide (i < 20) && !(i == 1 || i == 12 || i == 13 || i == 14 || i == 17)) (S := fun w' => Below w2.heap.size w2 w' ∧ w'.cell? ⟨R, 2, none⟩ = some (.slice av L ac) ∧ w'.cell? ⟨R, 3, none⟩ = some (.slice bv L bc)) (by kernel_rfl) ?_ (fun hHeld => ?_)
  · exact HS.out _ (below_drewN w2 _).drew
  refine wpAnyL_takeP (i := 1) (v := ?_) rfl (by kernel_rfl) (by kernel_rfl) (by kernel_rfl) (by kernel_rfl) (fun _ _ _ h => h) (Or.inl ⟨by rfl, ?_⟩) ?_
  rotate_left 1
  · (intro w hSw; (try dsimp only at hSw); go_simp; all_goals with_reducible rfl)
  simp only [Act.put, List.getElem_toArray, List.getElem_cons_zero, List.getElem_cons_succ, List.setIfInBounds_toArray, List.set_cons_zero, List.set_cons_succ]
  refine wpAnyL_takeP (i := 12) (v := ?_) rfl (by kernel_rfl) (by kernel_rfl) (by kernel_rfl) (by kernel_rfl) (fun _ _ _ h => h) (Or.inl ⟨by rfl, ?_⟩) ?_
  rotate_left 1
  · (intro w hSw; (try dsimp only at hSw); go_simp; all_goals with_reducible rfl)
  simp only [Act.put, List.getElem_toArray, List.getElem_cons_zero, List.getElem_cons_succ, List.setIfInBounds_toArray, List.set_cons_zero, List.set_cons_succ]
  refine wpAnyL_takeP (i := 13) (v := ?_) rfl (by kernel_rfl) (by kernel_rfl) (by kernel_rfl) (by kernel_rfl) (fun _ _ _ h => h) (Or.inl ⟨by rfl, ?_⟩) ?_
  rotate_left 1
  · (intro w hSw; (try dsimp only at hSw); go_simp; all_goals with_reducible rfl)
  simp only [Act.put, List.getElem_toArray, List.getElem_cons_zero, List.getElem_cons_succ, List.setIfInBounds_toArray, List.set_cons_zero, List.set_cons_succ]
  refine wpAnyL_takeP (i := 14) (v := ?_) rfl (by kernel_rfl) (by kernel_rfl) (by kernel_rfl) (by kernel_rfl) (fun _ _ _ h => h) (Or.inl ⟨by rfl, ?_⟩) ?_
  rotate_left 1
  · (intro w hSw; (try dsimp only at hSw); go_simp; all_goals with_reducible rfl)
  simp only [Act.put, List.getElem_toArray, List.getElem_cons_zero, List.getElem_cons_succ, List.setIfInBounds_toArray, List.set_cons_zero, List.set_cons_succ]
  refine wpAnyL_takeP (i := 17) (v := ?_) rfl (by kernel_rfl) (by kernel_rfl) (by kernel_rfl) (by kernel_rfl) (fun _ _ _ h => h) (Or.inl ⟨by rfl, ?_⟩) ?_
  rotate_left 1
  · (intro w hSw; (try dsimp only at hSw); go_simp; all_goals with_reducible rfl)
  simp only [Act.put, List.getElem_toArray, List.getElem_cons_zero, List.getElem_cons_succ, List.setIfInBounds_toArray, List.set_cons_zero, List.set_cons_succ]
  refine wpAnyL_take (i := 0) (v := ?_) rfl (by kernel_rfl) (by kernel_rfl) (by kernel_rfl) (by kernel_rfl) (fun _ _ _ h => h) (Or.inl ⟨by rfl, ?_⟩) (by first | trivial | assumption) ?_
  rotate_left 1
  · (intro w hSw; (try dsimp only at hSw); go_simp; all_goals with_reducible rfl)
  simp only [Act.put, List.getElem_toArray, List.getElem_cons_zero, List.getElem_cons_succ, List.setIfInBounds_toArray, List.set_cons_zero, List.set_cons_succ]
  refine wpAnyL_take (i := 3) (v := ?_) rfl (by kernel_rfl) (by kernel_rfl) (by kernel_rfl) (by kernel_rfl) (fun _ _ _ h => h) (Or.inl ⟨by rfl, ?_⟩) (by first | trivial | assumption) ?_
  rotate_left 1
  · (intro w hSw; (try dsimp only at hSw); go_simp; all_goals with_reducible rfl)
  simp only [Act.put, List.getElem_toArray, List.getElem_cons_zero, List.getElem_cons_succ, List.setIfInBounds_toArray, List.set_cons_zero, List.set_cons_succ]
  refine wpAnyL_take (i := 4) (v := ?_) rfl (by kernel_rfl) (by kernel_rfl) (by kernel_rfl) (by kernel_rfl) (fun _ _ _ h => h) (Or.inl ⟨by rfl, ?_⟩) (by first | trivial | assumption) ?_
  rotate_left 1
  · (intro w hSw; (try dsimp only at hSw); go_simp; all_goals with_reducible rfl)
  simp only [Act.put, List.getElem_toArray, List.getElem_cons_zero, List.getElem_cons_succ, List.setIfInBounds_toArray, List.set_cons_zero, List.set_cons_succ]
  refine wpAnyL_take (i := 5) (v := ?_) rfl (by kernel_rfl) (by kernel_rfl) (by kernel_rfl) (by kernel_rfl) (fun _ _ _ h => h) (Or.inl ⟨by rfl, ?_⟩) (by first | trivial | assumption) ?_
  rotate_left 1
  · (intro w hSw; (try dsimp only at hSw); go_simp; all_goals with_reducible rfl)
  simp only [Act.put, List.getElem_toArray, List.getElem_cons_zero, List.getElem_cons_succ, List.setIfInBounds_toArray, List.set_cons_zero, List.set_cons_succ]
  refine wpAnyL_take (i := 6) (v := ?_) rfl (by kernel_rfl) (by kernel_rfl) (by kernel_rfl) (by kernel_rfl) (fun _ _ _ h => h) (Or.inl ⟨by rfl, ?_⟩) (by first | trivial | assumption) ?_
  rotate_left 1
  · (intro w hSw; (try dsimp only at hSw); go_simp; all_goals with_reducible rfl)
  simp only [Act.put, List.getElem_toArray, List.getElem_cons_zero, List.getElem_cons_succ, List.setIfInBounds_toArray, List.set_cons_zero, List.set_cons_succ]
  refine wpAnyL_take (i := 8) (v := ?_) rfl (by kernel_rfl) (by kernel_rfl) (by kernel_rfl) (by kernel_rfl) (fun _ _ _ h => h) (Or.inl ⟨by rfl, ?_⟩) (by first | trivial | assumption) ?_
  rotate_left 1
  · (intro w hSw; (try dsimp only at hSw); go_simp; all_goals with_reducible rfl)
  simp only [Act.put, List.getElem_toArray, List.getElem_cons_zero, List.getElem_cons_succ, List.setIfInBounds_toArray, List.set_cons_zero, List.set_cons_succ]
  refine wpAnyL_take (i := 15) (v := ?_) rfl (by kernel_rfl) (by kernel_rfl) (by kernel_rfl) (by kernel_rfl) (fun _ _ _ h => h) (Or.inl ⟨by rfl, ?_⟩) (by first | trivial | assumption) ?_
  rotate_left 1
  · (intro w hSw; (try dsimp only at hSw); go_simp; all_goals with_reducible rfl)
  simp only [Act.put, List.getElem_toArray, List.getElem_cons_zero, List.getElem_cons_succ, List.setIfInBounds_toArray, List.set_cons_zero, List.set_cons_succ]
  refine two_start _ _ (ts s.q) (us s.q) t m av bv L L ac bc ?hT HTL.out HUL.out hl hl ?z1 ?z2 ?e1 ?e2 ?e3 ?e4 ?e5 ?hS ?hQ
  case hT => exact ⟨by unfold IsOp; kernel_rfl, by unfold IsOp; kernel_rfl, by unfold IsOp; kernel_rfl, by unfold IsOp; kernel_rfl, by unfold IsOp; kernel_rfl, by unfold IsOp; kernel_rfl, by unfold IsOp; kernel_rfl, by unfold IsOp; kernel_rfl, by kernel_rfl, by kernel_rfl, ⟨by kernel_rfl, by kernel_rfl⟩, ⟨by kernel_rfl, by kernel_rfl⟩, ⟨by kernel_rfl, by kernel_rfl⟩, fun i h1 h2 => by
      rcases (show i = 20 ∨ i = 21 ∨ i = 22 ∨ i = 23 ∨ i = 24 ∨ i = 25 by omega) with rfl | rfl | rfl | rfl | rfl | rfl <;> kernel_rfl, fun _ _ _ _ _ _ _ => by kernel_rfl, fun _ _ _ _ _ _ => by kernel_rfl, fun _ _ _ _ _ => by kernel_rfl, fun _ _ _ _ => by kernel_rfl, fun _ _ _ => by kernel_rfl, fun _ _ => by kernel_rfl, fun _ => by kernel_rfl, by kernel_rfl⟩
  case z1 => exact HZL.out.below (below_drewN w2 _).drew
  case z2 => exact HZM.out.below (below_drewN w2 _).drew
  case e1 => kernel_rfl
  case e2 => kernel_rfl
  case e3 => kernel_rfl
  case e4 => kernel_rfl
  case e5 => kernel_rfl
  case hS => exact fun w' k => HS.out w' (below_next (below_drewN w2 _).drew k)
  intro f7 v52 v57 v59 a6 c6 v61 v66 v68 a8 c8 w7 hlow ho60 ho69
  simp only [List.setIfInBounds_toArray, List.set_cons_zero, List.set_cons_succ]
  have hb7 : Below w2.heap.size w2 w7 := below_next (below_drewN w2 _).drew hlow
  clear hlow
  have HN := hide (NowR.setQ (a := .slice a6 (L + 1) c6) (b := .slice a8 (L + 1) c8) (l := s.q ++ [⟨t, m⟩]) HR.out hbs hb7 (by rw [List.length_append, HL.out, ts_snoc]; exact ho60) (by rw [List.length_append, HL.out, us_snoc]; exact ho69))
  obtain ⟨_, _, y2, y3, yf⟩ := (HR.out.below hb7).cells
  have yf2 := yf 2
  have yf3 := yf 3
  clear ho60 ho69 hb7 yf HS HZL HZM hHeld
  refine wpAnyL_takeP (i := 20) (v := ?_) rfl (by kernel_rfl) (by kernel_rfl) (by kernel_rfl) (by kernel_rfl) (fun _ _ _ h => h) (Or.inl ⟨by rfl, ?_⟩) ?_
  rotate_left 1
  · (intro w hSw; (try dsimp only at hSw); go_simp; all_goals with_reducible rfl)
  simp only [Act.put, List.getElem_toArray, List.getElem_cons_zero, List.getElem_cons_succ, List.setIfInBounds_toArray, List.set_cons_zero, List.set_cons_succ]
  refine wpAnyL_takeP (i := 21) (v := ?_) rfl (by kernel_rfl) (by kernel_rfl) (by kernel_rfl) (by kernel_rfl) (fun _ _ _ h => h) (Or.inl ⟨by rfl, ?_⟩) ?_
  rotate_left 1
  · (intro w hSw; (try dsimp only at hSw); go_simp; all_goals with_reducible rfl)
  simp only [Act.put, List.getElem_toArray, List.getElem_cons_zero, List.getElem_cons_succ, List.setIfInBounds_toArray, List.set_cons_zero, List.set_cons_succ]
  refine wpAnyL_ready (rs := [22]) (by kernel_rfl) (by simp) ?_
  refine AllReadyL.last rfl (by kernel_rfl) (fun K hK => ?_)
  go_simp
  refine hK.out _ _ ?_
  clear hK K
  simp only [Act.put, List.getElem_toArray, List.getElem_cons_zero, List.getElem_cons_succ, List.setIfInBounds_toArray, List.set_cons_zero, List.set_cons_succ]
  refine wpAnyL_takeP (i := 23) (v := ?_) rfl (by kernel_rfl) (by kernel_rfl) (by kernel_rfl) (by kernel_rfl) (fun _ _ _ h => h) (Or.inl ⟨by rfl, ?_⟩) ?_
  rotate_left 1
  · (intro w hSw; (try dsimp only at hSw); go_simp; all_goals with_reducible rfl)
  simp only [Act.put, List.getElem_toArray, List.getElem_cons_zero, List.getElem_cons_succ, List.setIfInBounds_toArray, List.set_cons_zero, List.set_cons_succ]
  refine wpAnyL_takeP (i := 24) (v := ?_) rfl (by kernel_rfl) (by kernel_rfl) (by kernel_rfl) (by kernel_rfl) (fun _ _ _ h => h) (Or.inl ⟨by rfl, ?_⟩) ?_
  rotate_left 1
  · (intro w hSw; (try dsimp only at hSw); go_simp; all_goals with_reducible rfl)
  simp only [Act.put, List.getElem_toArray, List.getElem_cons_zero, List.getElem_cons_succ, List.setIfInBounds_toArray, List.set_cons_zero, List.set_cons_succ]
  refine wpAnyL_ready (rs := [25]) (by kernel_rfl) (by simp) ?_
  refine AllReadyL.last rfl (by kernel_rfl) (fun K hK => ?_)
  go_simp
  refine hK.out _ _ ?_
  clear hK K
  simp only [Act.put, List.getElem_toArray, List.getElem_cons_zero, List.getElem_cons_succ, List.setIfInBounds_toArray, List.set_cons_zero, List.set_cons_succ]
  refine wpAnyL_done (by kernel_rfl) ?_ _
  refine NoPanic.normal ?_
  obtain ⟨W3, hW3⟩ : ∃ W3, W3 = (w7.setCell ⟨R, 2, none⟩ (.slice a6 (L + 1) c6)).setCell ⟨R, 3, none⟩ (.slice a8 (L + 1) c8) := ⟨_, rfl⟩
  rw [← hW3] at HN ⊢
  clear hW3
  have e3 : (s.q ++ [(⟨t, m⟩ : Wt)]).length = L + 1 := by rw [List.length_append, HL.out]; rfl
  have E3 := hide e3
  clear e3
  obtain ⟨u3, hA3, hV3, hW3⟩ := HN.out
  obtain ⟨_, _, z2, _, _⟩ := hA3.cells
  obtain ⟨a3, d3, a4, d4, hu3⟩ := hA3.forms
  rw [hu3] at z2
  dsimp only at z2
  rw [E3.out] at z2
  have HV3 := hide hV3
  have HW3 := hide hW3
  have hbs3 : base ≤ W3.heap.size := Nat.le_trans hbs hV3.size
  have hL0 : L = 0 := by rw [← HL.out, h4]; rfl
  subst hL0
  have hA3' : AtR W3 R base u3 ⟨s.n, s.f, [⟨t, m⟩]⟩ := by rw [h4] at hA3; exact hA3
  have hok : Okw ⟨s.n, s.f, [⟨t, m⟩]⟩ := ⟨HOK.out.n1, HOK.out.n16, HOK.out.f0, HOK.out.fn, fun y hy => by
    simp at hy
    subst hy
    exact HB0.out⟩
  have G := rserve_any R base u3 ⟨s.n, s.f, [⟨t, m⟩]⟩ hok (by simp) W3 hA3' hbs3
  have hsv := serve_more (n := s.n) (f := s.f) (x := ⟨t, m⟩) (q := []) h5
  have hsn := serve_none (n := s.n) (f := s.f - m) (q := []) (fun y hy => by simp at hy)
  rw [hsv.1, hsv.2] at G
  rw [hsn.1, hsn.2] at G
  clear hsv hsn
  have HG := hide G
  clear hA3 hA3' hV3 hW3 hu3 y2 y3 yf2 yf3 cf2 cf3 c2 c3 hok G
  go_wp2_with fail
  refine HG.out.mono ?_
  rintro e w4 ⟨r, rfl, hN, hr⟩
  simp only [List.length_nil, List.length_singleton] at hr
  obtain ⟨ar, cr, rfl⟩ := owns_slice hr
  have HF := hide (NowR.next HV3.out HW3.out hN)
  clear hN hr HG
  go_wp2
  go_ret
  refine ⟨rfl, ?_⟩
  rw [h4]
  exact HF.out

set_option maxRecDepth 20000 in
set_option maxHeartbeats 8000000 in
set_option linter.unusedSimpArgs false in
theorem want_busyL (R base : Nat) (u : Vs) (s : Sm) (hO : Okw s) (hl : s.q.length ≤ 1000) (t m : Int) (h1 : ¬ t < 1) (h2 : may s m) (h3 : inZ (ts s.q) t = false) (h4 : 0 < s.q.length) (w : World) (hR : AtR w R base u s) (hbs : base ≤ w.heap.size) :
    Calls Try.prog 21 #[.pointer (some ⟨R, 0, none⟩), .int .i64 t, .int .i64 m, .bool false] w fun e w' => e = .returned (.int .i64 12) ∧ NowR R base u s w w' := by
  have A := at_any R base u s hl t w hR
  rw [idx_out h3] at A
  have HA := hide A
  obtain ⟨c0, c1, c2, c3, cf⟩ := hR.cells
  have cf2 := cf 2
  have cf3 := cf 3
  have hRl := hR.lt
  obtain ⟨av, ac, bv, bc, hv⟩ := hR.forms
  have hu : u.a = .slice av s.q.length ac ∧ u.b = .slice bv s.q.length bc := by rw [hv]; exact ⟨rfl, rfl⟩
  rw [hu.1] at c2
  rw [hu.2] at c3
  have hzl : RowZ w av (ts s.q) := owns_rowZ (c := ac) (l := ts s.q) (by rw [ts_len, ← hu.1]; exact hR.ra)
  have hzm : RowZ w bv (us s.q) := owns_rowZ (c := bc) (l := us s.q) (by rw [us_len, ← hu.2]; exact hR.rb)
  have HZL := hide hzl
  have HZM := hide hzm
  have HR := hide hR
  have m1 : decide (m < 1) = false := decide_eq_false (by have := h2.1; omega)
  have m2 : decide (s.n < m) = false := decide_eq_false (by have := h2.2; omega)

  obtain ⟨L, hL⟩ : ∃ L, s.q.length = L := ⟨_, rfl⟩
  have HL := hide hL
  have HTL : Hid ((ts s.q).length = L) := hide (by rw [ts_len]; exact hL)
  have HUL : Hid ((us s.q).length = L) := hide (by rw [us_len]; exact hL)
  rw [hL] at c2 c3 hl
  have HS : Hid (∀ W', Below w.heap.size w W' → Below w.heap.size w W' ∧ W'.cell? ⟨R, 2, none⟩ = some (.slice av L ac) ∧ W'.cell? ⟨R, 3, none⟩ = some (.slice bv L bc)) := hide fun W' k => by
    obtain ⟨_, _, d2, d3, _⟩ := (HR.out.below k).cells
    rw [hu.1, hL] at d2
    rw [hu.2, hL] at d3
    exact ⟨k, d2, d3⟩
  have hAt : AtR w R base u s := hR
  have HB0 := hide h2
  have HOK := hide hO
  clear A hR hv hu hzl hzm cf hL h2 hO h3 hAt
  have i0 : decide ((0 : Int) < (L : Int)) = true := decide_eq_true (by have := HL.out; omega)
  have i9 : decide (0 < L) = true := decide_eq_true (by have := HL.out; omega)
  go_enter Try.func21, Try.ntmps21
  go_wp2_with fail
  refine HA.out.mono ?_
  rintro e w2 ⟨rfl, hw2⟩
  subst hw2
  go_wp2_with fail
  go_quiet (fail)
  go_wp2
  go_ret
  exact ⟨rfl, NowR.same HR.out (below_drewN _ _)⟩

set_option maxRecDepth 20000 in
set_option maxHeartbeats 8000000 in
set_option linter.unusedSimpArgs false in
theorem want_busyF (R base : Nat) (u : Vs) (s : Sm) (hO : Okw s) (hl : s.q.length ≤ 1000) (t m : Int) (h1 : ¬ t < 1) (h2 : may s m) (h3 : inZ (ts s.q) t = false) (h4 : s.q = []) (h5 : s.f < m) (w : World) (hR : AtR w R base u s) (hbs : base ≤ w.heap.size) :
    Calls Try.prog 21 #[.pointer (some ⟨R, 0, none⟩), .int .i64 t, .int .i64 m, .bool false] w fun e w' => e = .returned (.int .i64 12) ∧ NowR R base u s w w' := by
  have A := at_any R base u s hl t w hR
  rw [idx_out h3] at A
  have HA := hide A
  obtain ⟨c0, c1, c2, c3, cf⟩ := hR.cells
  have cf2 := cf 2
  have cf3 := cf 3
  have hRl := hR.lt
  obtain ⟨av, ac, bv, bc, hv⟩ := hR.forms
  have hu : u.a = .slice av s.q.length ac ∧ u.b = .slice bv s.q.length bc := by rw [hv]; exact ⟨rfl, rfl⟩
  rw [hu.1] at c2
  rw [hu.2] at c3
  have hzl : RowZ w av (ts s.q) := owns_rowZ (c := ac) (l := ts s.q) (by rw [ts_len, ← hu.1]; exact hR.ra)
  have hzm : RowZ w bv (us s.q) := owns_rowZ (c := bc) (l := us s.q) (by rw [us_len, ← hu.2]; exact hR.rb)
  have HZL := hide hzl
  have HZM := hide hzm
  have HR := hide hR
  have m1 : decide (m < 1) = false := decide_eq_false (by have := h2.1; omega)
  have m2 : decide (s.n < m) = false := decide_eq_false (by have := h2.2; omega)
  have p1 : IntKind.i64.wrap (s.n - s.f + m) = s.n - s.f + m := wrapB (by have := hO.f0; have := hO.fn; have := hO.n16; have := h2.1; have := h2.2; omega)
  obtain ⟨E, hE⟩ : ∃ E, s.n - s.f + m = E := ⟨_, rfl⟩
  have p2 : decide (s.n < E) = true := decide_eq_true (by omega)
  rw [hE] at p1
  have p3 : IntKind.i64.wrap (s.n - s.f + m) = E := by rw [hE]; exact p1
  clear hE p1
  obtain ⟨L, hL⟩ : ∃ L, s.q.length = L := ⟨_, rfl⟩
  have HL := hide hL
  have HTL : Hid ((ts s.q).length = L) := hide (by rw [ts_len]; exact hL)
  have HUL : Hid ((us s.q).length = L) := hide (by rw [us_len]; exact hL)
  rw [hL] at c2 c3 hl
  have HS : Hid (∀ W', Below w.heap.size w W' → Below w.heap.size w W' ∧ W'.cell? ⟨R, 2, none⟩ = some (.slice av L ac) ∧ W'.cell? ⟨R, 3, none⟩ = some (.slice bv L bc)) := hide fun W' k => by
    obtain ⟨_, _, d2, d3, _⟩ := (HR.out.below k).cells
    rw [hu.1, hL] at d2
    rw [hu.2, hL] at d3
    exact ⟨k, d2, d3⟩
  have hAt : AtR w R base u s := hR
  have HB0 := hide h2
  have HOK := hide hO
  clear A hR hv hu hzl hzm cf hL h2 hO h3 hAt
  have i0 : decide ((0 : Int) < (L : Int)) = false := decide_eq_false (by have := HL.out; rw [h4] at this; simp at this; omega)
  have i9 : decide (0 < L) = false := decide_eq_false (by have := HL.out; rw [h4] at this; simp at this; omega)
  go_enter Try.func21, Try.ntmps21
  go_wp2_with fail
  refine HA.out.mono ?_
  rintro e w2 ⟨rfl, hw2⟩
  subst hw2
  go_wp2_with fail
  go_quiet (fail)
  go_wp2
  go_ret
  exact ⟨rfl, NowR.same HR.out (below_drewN _ _)⟩

def wantE (b : Bool) (s : Sm) (t m : Int) : Int := if b = true then acqE s t m else tryE s t m
def wantS (b : Bool) (s : Sm) (t m : Int) : Sm := if b = true then acqS s t m else tryS s t m

set_option maxHeartbeats 1000000 in
theorem want_any (R base : Nat) (u : Vs) (s : Sm) (hO : Okw s) (hl : s.q.length ≤ 1000) (t m : Int) (b : Bool) (w : World) (hR : AtR w R base u s) (hbs : base ≤ w.heap.size) :
    Calls Try.prog 21 #[.pointer (some ⟨R, 0, none⟩), .int .i64 t, .int .i64 m, .bool b] w fun e w' => e = .returned (.int .i64 (wantE b s t m)) ∧ NowR R base u (wantS b s t m) w w' := by
  have same : tryE s t m ≠ 12 → wantE b s t m = tryE s t m ∧ wantS b s t m = tryS s t m := fun h => by
    unfold wantE wantS acqE acqS
    rw [if_neg h, if_neg h]
    exact ⟨ite_self _, ite_self _⟩
  have stay : tryE s t m ≠ 0 → tryS s t m = s := fun h => if_neg h
  rcases try_cases s t m with ⟨e, h⟩ | ⟨e, h1, h2, h3⟩ | ⟨e, h1, h2, h3, h4⟩ | ⟨e, h1, h2, h3, h4, h5⟩
  · obtain ⟨e1, e2⟩ := same (by rw [e]; decide)
    rw [e1, e2, stay (by rw [e]; decide), e]
    have HR := hide hR
    obtain ⟨c0, _⟩ := hR.cells
    clear same stay e e1 e2 hR
    by_cases h1 : t < 1
    · clear h
      go_enter Try.func21, Try.ntmps21
      go_wp2
      go_ret
      exact ⟨rfl, NowR.same HR.out (Below.refl _ _)⟩
    · have h2 : ¬ may s m := h.resolve_left h1
      clear h
      by_cases h3 : m < 1
      · clear h2
        go_enter Try.func21, Try.ntmps21
        go_wp2
        go_ret
        exact ⟨rfl, NowR.same HR.out (Below.refl _ _)⟩
      · have h4 : s.n < m := by
          by_cases q : s.n < m
          · exact q
          · exact absurd ⟨by omega, by omega⟩ h2
        clear h2
        generalize s.n = n at *
        go_enter Try.func21, Try.ntmps21
        go_wp2
        go_ret
        exact ⟨rfl, NowR.same HR.out (Below.refl _ _)⟩
  · obtain ⟨e1, e2⟩ := same (by rw [e]; decide)
    rw [e1, e2, stay (by rw [e]; decide), e]
    have HR := hide hR
    obtain ⟨c0, _⟩ := hR.cells
    have A := at_any R base u s hl t w hR
    obtain ⟨k, _, q2, _⟩ := idx_in h3
    rw [q2] at A
    have HA := hide A
    have hk : (0 : Int) ≤ (k : Int) := by omega
    have m1 : decide (m < 1) = false := decide_eq_false (by have := h2.1; omega)
    have m2 : decide (s.n < m) = false := decide_eq_false (by have := h2.2; omega)
    clear same stay e e1 e2 hR A q2 h2 h3
    generalize s.n = n at *
    go_enter Try.func21, Try.ntmps21
    go_wp2_with fail
    refine HA.out.mono ?_
    rintro e w2 ⟨rfl, hw2⟩
    subst hw2
    go_wp2
    go_ret
    exact ⟨rfl, NowR.same HR.out (Below.refl _ _)⟩
  · cases b
    · have e1 : wantE false s t m = 12 := e
      have e2 : wantS false s t m = s := stay (by rw [e]; decide)
      rw [e1, e2]
      by_cases h5 : 0 < s.q.length
      · exact want_busyL R base u s hO hl t m h1 h2 h3 h5 w hR hbs
      · exact want_busyF R base u s hO hl t m h1 h2 h3 (List.length_eq_zero_iff.1 (by omega)) (h4.resolve_left h5) w hR hbs
    · have e1 : wantE true s t m = 14 := if_pos e
      have e2 : wantS true s t m = ⟨s.n, s.f, s.q ++ [⟨t, m⟩]⟩ := if_pos e
      rw [e1, e2]
      by_cases h5 : 0 < s.q.length
      · exact want_more R base u s hO hl t m h1 h2 h3 h5 w hR hbs
      · exact want_less R base u s hO hl t m h1 h2 h3 (List.length_eq_zero_iff.1 (by omega)) (h4.resolve_left h5) w hR hbs
  · obtain ⟨e1, e2⟩ := same (by rw [e]; decide)
    rw [e1, e2, show tryS s t m = ⟨s.n, s.f - m, s.q⟩ from if_pos e, e]
    cases b
    · exact want_fitsF R base u s hO hl t m h1 h2 h3 h4 h5 w hR hbs
    · exact want_fits R base u s hO hl t m h1 h2 h3 h4 h5 w hR hbs

end Go.Proofs.Ytgldhlcdnijecaa
