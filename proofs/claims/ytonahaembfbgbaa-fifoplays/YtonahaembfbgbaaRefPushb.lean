/-
  What the document's Push comes to onto a queue that has a row.
-/
import Derived.Test.YtonahaembfbgbaaRefLit
namespace Go.Proofs.Ytonahaembfbgbaa
open Go.RowKit
attribute [local go_sem ↓] Go.wp_at_zero Go.wp_at_succ

set_option maxHeartbeats 40000000 in
set_option maxRecDepth 100000 in
theorem refPush_some (R T : Nat) (s : Qs) (vs : Nat → Value) (k y : Nat) (w : World) (hs : Ok s) (hR : AtR w R T s vs) (hk : k < s.nq) (hy : y < s.ni) (hw : s.wh y = -1) (g c m : Nat) (hm : (s.l k).length = m) (hv : vs k = .slice (some ⟨g, 0, none⟩) m c) :
    Calls Try.prog 15 #[.pointer (some ⟨R, 0, none⟩), .int .i64 (k : Int), .int .i64 (y : Int)] w fun e w' => e = .returned (.bool true) ∧ NowR R T (pushAt s k y) w w' := by
  obtain ⟨i0, hi, hz0, hz1, hz2⟩ := info_parts info3
  obtain ⟨c0, c1⟩ := hR.cells
  obtain ⟨t0, t1⟩ := hR.at hk
  have hrow := hR.row k hk
  have hWh := refWhere_any R T s vs (y : Int) w hs hR
  rw [show whereOf s (y : Int) = -1 by unfold whereOf; split <;> simp [hw]] at hWh
  rw [hv] at t0 hrow
  have hfew := all_few hs (k : Int)
  rw [all_nat hk, hm] at hfew
  have HCL : Hid (g < w.heap.size ∧ ∀ j, j < (s.l k).length → w.cell? ⟨g, j, none⟩ = some (.int .i64 ((gs_ (s.l k) j : Nat) : Int))) := by
    obtain ⟨cur, hh⟩ := owns_type hrow (g := g) rfl
    refine ⟨(Array.getElem?_eq_some_iff.1 hh).1, fun j hj => ?_⟩
    obtain ⟨g', c', hv', _, _, hcell, _⟩ := row_open hrow (by omega)
    simp only [Value.slice.injEq, Option.some.injEq, Addr.mk.injEq, and_true] at hv'
    obtain ⟨rfl, _⟩ := hv'
    exact (hcell j hj).1
  have h32 := hs.nq
  have h33 := hs.ni
  have hTl := hR.ltT
  have hRl := hR.ltR
  have d1 : decide ((k : Int) < 0) = false := by simp
  have d2 : decide ((s.nq : Int) ≤ (k : Int)) = false := by simp; omega
  have d2' : decide (s.nq ≤ k) = false := by simp; omega
  have d4' : decide (s.ni ≤ y) = false := by simp; omega
  have d3 : decide ((y : Int) < 0) = false := by simp
  have d4 : decide ((s.ni : Int) ≤ (y : Int)) = false := by simp; omega
  have hk' : (k : Int) < (s.nq : Int) := by omega
  have b2 : (0 : Int) ≤ (k : Int) := by omega
  have HR := hide hR
  have HW := hide hWh
  have HKN := hide hk
  have HM := hide hm
  clear hR hrow hs hk hy hw hv hm hWh
  go_enter Try.func15, Try.ntmps15
  go_wp2_with fail
  refine HW.out.mono ?_
  rintro e w2 ⟨rfl, hw2⟩
  have hw2' := hw2.symm
  clear hw2
  subst hw2'
  clear HW
  go_wp2_with fail
  clear d1 d2 d2' d3 d4 d4' c1 h33
  go_region_law
    (first
      | ((refine step_copy_any _ (by rfl) _ _ _ (by rfl) w.heap.size 3 i0 (.int .i64 0) 1 8 Try.underlying37 hi hz0 hz1 hz2 rfl (by omega) _ (by rfl) (by first | exact lit1 w | exact lit2 w _ | exact lit3 w _) ⟨g, 0, none⟩ m c (cI (s.l k)) (by rfl) (by rw [cI_len, HM.out]; omega) (by refine news_same (fun j hj => ?_); first | exact ((bel1 w _).cell (p := ⟨g, j, none⟩) HCL.out.1).trans (HCL.out.2 j hj) | exact ((bel2 w _ _).cell (p := ⟨g, j, none⟩) HCL.out.1).trans (HCL.out.2 j hj)) (ones_row _) (by unfold maxLen; omega) (by omega) (by first | omega | (simp <;> omega)) ?_; intro ad' cap' w5 hown5 hgrow5 hat5; have hW1 : Below w.heap.size w _ := below_at hgrow5 (by first | exact bel1 w _ | exact bel2 w _ _); have hB5 : Below w.heap.size w w5 := below_app hW1 (by omega) hgrow5; have yc := (HR.out.below hB5).cells.1; have yr := (HR.out.below hB5).ltR; have yl := (HR.out.below hB5).ltT; obtain ⟨yt, yf⟩ := (HR.out.below hB5).at HKN.out; have hz5 := hB5.size))
      | ((refine step_append_any _ (by rfl) _ _ _ (by rfl) w.heap.size 3 i0 (.int .i64 0) 1 8 Try.underlying37 hi hz0 hz1 hz2 rfl (by omega) (.slice ad' m cap') m (cI (s.l k)) (by rfl) (by first | exact hown5 | exact hown5.alloc _) _ 1 1 [.int .i64 (y : Int)] (by rfl) (by rfl) (by refine news_one ?_; first | exact hgrow5.cell (cx2 w _) (ne_a w) | exact hgrow5.cell (cx3 w _) (ne_b w) | exact cx1 w5 _) (ones_int _) (by unfold maxLen; omega) (by omega) (by first | omega | (simp <;> omega)) ?_; intro ad6 cap6 w6 hown6 hgrow6 hat6; have hB6 : Below w.heap.size w w6 := below_app2 hB5 hown5 (by first | exact Below.refl _ _ | exact (Below.refl _ _).alloc (Nat.le_refl _) _) hgrow6; have zc := (HR.out.below hB6).cells.1; have zr := (HR.out.below hB6).ltR; have zl := (HR.out.below hB6).ltT; obtain ⟨zt, zf⟩ := (HR.out.below hB6).at HKN.out)))
  all_goals
    have HS := hide (HR.out.set (v := .slice ad6 (m + 1) cap6) (l := s.l k ++ [y]) (s' := pushAt s k y) (k := k) hB6 (by rw [cI_snoc, List.length_append, HM.out]; exact owns_mono hown6 (Nat.zero_le _)) HKN.out rfl rfl (fun j hj => rfl))
    clear hown5 hgrow5 hown6 hgrow6
    go_wp2
    go_ret
    exact ⟨rfl, _, HS.out.1, HS.out.2⟩

end Go.Proofs.Ytonahaembfbgbaa
