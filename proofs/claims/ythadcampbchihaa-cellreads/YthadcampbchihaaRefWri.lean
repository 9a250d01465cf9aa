/-
  What the document's Begin, End and Put come to.
-/
import Derived.Test.YthadcampbchihaaRef
namespace Go.Proofs.Ythadcampbchihaa
open Go.RowKit

set_option maxHeartbeats 2000000 in
theorem refBegin_any (R base : Nat) (u : Value) (s : Ws) (hO : Okw s) (t : Int) (w : World) (hR : AtR w R base u s) :
    Calls Try.prog 23 #[.pointer (some ⟨R, 0, none⟩), .int .i64 t] w fun e w' => e = .returned (.int .i64 (begE s t)) ∧ NowR R base u (begS s t) w w' := by
  obtain ⟨c0, c1, _, c3, cf⟩ := hR.cells
  have hRl := hR.lt
  have HR := hide hR
  have he0 := hO.e0
  have he1 := hO.e1
  clear hR hO
  by_cases h1 : t < 1
  · obtain ⟨e1, e2⟩ := beg_low (s := s) h1
    rw [e1, e2]
    clear e1 e2 c0 c1 c3 cf he0 he1
    go_enter Try.func23, Try.ntmps23
    go_wp2
    go_ret
    exact ⟨rfl, NowR.same HR.out (Below.refl _ _)⟩
  by_cases h2 : s.wr = 0
  · rw [show s.bg = s.e from if_pos h2] at c0
    have h3 : ¬ t = 0 := by omega
    have h5 : ¬ s.e < s.e := by omega
    have u1 : IntKind.i64.wrap (s.e + s.e) = s.e + s.e := wrapB (by omega)
    by_cases h4 : s.e = 524288
    · obtain ⟨e1, e2⟩ := beg_over h1 h2 h4
      rw [e1, e2]
      rw [h4] at c0 c1 u1 h5
      clear e1 e2 cf h2 h4 he0 he1
      go_enter Try.func23, Try.ntmps23
      go_wp2_with fail
      go_quiet (fail)
      have hbW : Below w.heap.size w (w.drewN nq) := below_drewN _ _
      generalize w.drewN nq = w3 at hbW ⊢
      have d0 := ((bcell hbW).1 R 0 hRl).trans c0
      have d1 := ((bcell hbW).1 R 1 hRl).trans c1
      clear c0 c1 c3
      go_wp2_with fail
      go_quiet (fail)
      go_wp2
      go_ret
      exact ⟨rfl, NowR.same HR.out (below_next hbW (below_drewN _ _))⟩
    · obtain ⟨e1, e2⟩ := beg_ok h1 h2 h4
      rw [e1, e2]
      have HF : Hid (∀ w3, Below w.heap.size w w3 → NowR R base u ⟨s.l, s.e, t⟩ w ((w3.setCell ⟨R, 0, none⟩ (.int .i64 (s.e + 1))).setCell ⟨R, 3, none⟩ (.int .i64 t))) := hide fun w3 hb =>
        ⟨u, (HR.out.below hb).beg h3 rfl, ((Mov.of_below (S := Mine R u) hb).set (p := ⟨R, 0, none⟩) (Or.inl rfl) _).set (p := ⟨R, 3, none⟩) (Or.inl rfl) _, fun _ hk => Or.inr hk⟩
      generalize (⟨s.l, s.e, t⟩ : Ws) = T at *
      have u2 : IntKind.i64.wrap (s.e + 1) = s.e + 1 := wrapB (by omega)
      have h6 : ¬ 1048576 ≤ s.e + s.e := by omega
      clear e1 e2 h2 h4 he0 he1 c3
      generalize s.e = E at *
      go_enter Try.func23, Try.ntmps23
      go_wp2_with fail
      go_quiet (fail)
      have hbW : Below w.heap.size w (w.drewN nq) := below_drewN _ _
      generalize w.drewN nq = w3 at hbW ⊢
      have d0 := ((bcell hbW).1 R 0 hRl).trans c0
      have d1 := ((bcell hbW).1 R 1 hRl).trans c1
      clear c0 c1
      go_wp2_with fail
      go_quiet (fail)
      have hbX : Below w3.heap.size w3 (w3.drewN nq) := below_drewN _ _
      generalize w3.drewN nq = w4 at hbX ⊢
      have hRl3 : R < w3.heap.size := Nat.lt_of_lt_of_le hRl hbW.size
      have q0 := ((bcell hbX).1 R 0 hRl3).trans d0
      have hb4 := below_next hbW hbX
      have f0 := ((bcell hb4).2 R 0 hRl).trans (cf 0)
      have f3 := ((bcell hb4).2 R 3 hRl).trans (cf 3)
      obtain ⟨_, _, _, q3, _⟩ := (HR.out.below hb4).cells
      have HG := hide (HF.out w4 hb4)
      clear d0 d1 hbX hbW hb4 cf HF HR hRl3
      generalize s.wr = W0 at q3
      go_wp2
      go_ret
      exact ⟨rfl, HG.out⟩
  · rw [show s.bg = s.e + 1 from if_neg h2] at c0
    have h5 : s.e < s.e + 1 := by omega
    generalize s.e + 1 = P at *
    by_cases h3 : t = s.wr
    · obtain ⟨e1, e2⟩ := beg_mine h1 h3
      rw [e1, e2]
      rw [← h3] at c3
      clear e1 e2 cf he0 he1 h2 h3
      generalize s.e = E at *
      go_enter Try.func23, Try.ntmps23
      go_wp2_with fail
      go_quiet (fail)
      have hbW : Below w.heap.size w (w.drewN nq) := below_drewN _ _
      generalize w.drewN nq = w3 at hbW ⊢
      have d3 := ((bcell hbW).1 R 3 hRl).trans c3
      clear c0 c1 c3
      go_wp2
      go_ret
      exact ⟨rfl, NowR.same HR.out hbW⟩
    · obtain ⟨e1, e2⟩ := beg_busy h1 h3 h2
      rw [e1, e2]
      clear e1 e2 cf he0 he1 h2
      have h6 : ¬ s.wr = t := fun k => h3 k.symm
      generalize s.e = E at *
      generalize s.wr = W0 at *
      go_enter Try.func23, Try.ntmps23
      go_wp2_with fail
      go_quiet (fail)
      have hbW : Below w.heap.size w (w.drewN nq) := below_drewN _ _
      generalize w.drewN nq = w3 at hbW ⊢
      have d3 := ((bcell hbW).1 R 3 hRl).trans c3
      clear c0 c1 c3
      go_wp2
      go_ret
      exact ⟨rfl, NowR.same HR.out hbW⟩

theorem wri_yes {s : Ws} {t : Int} (h1 : ¬ t < 1) (h2 : t = s.wr) : wriB s t = true := decide_eq_true ⟨by omega, h2.symm⟩
theorem wri_no {s : Ws} {t : Int} (h2 : ¬ t = s.wr) : wriB s t = false := decide_eq_false fun k => h2 k.2.symm

set_option maxHeartbeats 2000000 in
theorem refEnd_any (R base : Nat) (u : Value) (s : Ws) (hO : Okw s) (t : Int) (w : World) (hR : AtR w R base u s) :
    Calls Try.prog 24 #[.pointer (some ⟨R, 0, none⟩), .int .i64 t] w fun e w' => e = .returned (.int .i64 (endE s t)) ∧ NowR R base u (endS s t) w w' := by
  have HW := hide (writes_any R base u s t w hR)
  have hRl := hR.lt
  have HR := hide hR
  have he0 := hO.e0
  have he1 := hO.e1
  clear hR hO
  by_cases h1 : t < 1
  · obtain ⟨e1, e2⟩ := end_low (s := s) h1
    rw [e1, e2]
    clear e1 e2 HW he0 he1
    go_enter Try.func24, Try.ntmps24
    go_wp2
    go_ret
    exact ⟨rfl, NowR.same HR.out (Below.refl _ _)⟩
  by_cases h3 : t = s.wr
  · obtain ⟨e1, e2⟩ := end_ok h1 h3
    rw [e1, e2]
    rw [wri_yes h1 h3] at HW
    have h4 : ¬ s.wr = 0 := by omega
    have HF : Hid (∀ w3, Below w.heap.size w w3 → NowR R base u ⟨s.l, s.e + 1, 0⟩ w ((w3.setCell ⟨R, 1, none⟩ (.int .i64 (s.e + 1))).setCell ⟨R, 3, none⟩ (.int .i64 0))) := hide fun w3 hb =>
      ⟨u, (HR.out.below hb).fin h4 rfl, ((Mov.of_below (S := Mine R u) hb).set (p := ⟨R, 1, none⟩) (Or.inl rfl) _).set (p := ⟨R, 3, none⟩) (Or.inl rfl) _, fun _ hk => Or.inr hk⟩
    generalize (⟨s.l, s.e + 1, 0⟩ : Ws) = T at *
    have u2 : IntKind.i64.wrap (s.e + 1) = s.e + 1 := wrapB (by omega)
    clear e1 e2 he0 he1 h4 h3
    go_enter Try.func24, Try.ntmps24
    go_wp2_with fail
    refine HW.out.mono ?_
    rintro e w2 ⟨rfl, hb⟩
    obtain ⟨_, q1, _, q3, cf⟩ := (HR.out.below hb).cells
    have f1 := cf 1
    have f3 := cf 3
    have hRl2 : R < w2.heap.size := Nat.lt_of_lt_of_le hRl hb.size
    have HG := hide (HF.out w2 hb)
    clear hb HF HR HW cf hRl
    generalize s.e = E at *
    generalize s.wr = W0 at *
    go_wp2
    go_ret
    exact ⟨rfl, HG.out⟩
  · obtain ⟨e1, e2⟩ := end_not h1 h3
    rw [e1, e2]
    rw [wri_no h3] at HW
    clear e1 e2 he0 he1 h3
    go_enter Try.func24, Try.ntmps24
    go_wp2_with fail
    refine HW.out.mono ?_
    rintro e w2 ⟨rfl, hb⟩
    go_wp2
    go_ret
    exact ⟨rfl, NowR.same HR.out hb⟩

end Go.Proofs.Ythadcampbchihaa
