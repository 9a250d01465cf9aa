/-
  What the program's Release and Drop come to.
-/
import Derived.Test.YtgldhlcdnijecaaServe
namespace Go.Proofs.Ytgldhlcdnijecaa
open Go.RowKit

theorem NowA.none {w w' : World} {M base : Nat} {v : Value} {s : Sm} (k : NowS M base v s w w') : NowA M base v s [] w (.slice none 0 0) w' := ⟨k, World.ownsRow_nil _ _ _ _⟩
theorem NowS.thenA {w w1 w2 : World} {M base : Nat} {v r : Value} {s s2 : Sm} {l : List Int} (k : NowS M base v s w w1) (h : ∀ v1, AtS w1 M base v1 s → NowA M base v1 s2 l w1 r w2) : NowA M base v s2 l w r w2 := by
  obtain ⟨v1, k1, k2, k3⟩ := k
  obtain ⟨h1, h2⟩ := h v1 k1
  exact ⟨h1.next k2 k3, owns_base h2 k2.size⟩

set_option maxHeartbeats 1000000 in
theorem rel_any (M base : Nat) (v : Value) (s : Sm) (hO : Okw s) (hl : s.q.length ≤ 1000) (m : Int) (w : World) (hM : AtS w M base v s) :
    Calls Try.prog 17 #[.pointer (some ⟨M, 0, none⟩), .int .i64 m] w fun e w' => ∃ r, e = .returned (.tuple #[r, .int .i64 (relE s m)]) ∧ NowA M base v (relS s m) (relO s m) w r w' := by
  have HM := hide hM
  have F := may_any M base v s m w hM
  have hne : relE s m ≠ 0 → relO s m = [] ∧ relS s m = s := fun h => ⟨if_neg h, if_neg h⟩
  obtain ⟨c0, c1, _, cf⟩ := hM.cells
  have cf1 := cf 1
  have hMl := hM.lt
  rcases rel_cases s m with ⟨e, h⟩ | ⟨e, h, h2⟩ | ⟨e, h, h2⟩
  · obtain ⟨e2, e3⟩ := hne (by rw [e]; decide)
    rw [e, e2, e3]
    rw [decide_eq_false h] at F
    have HF := hide F
    clear F hM e e2 e3 hne h c0 c1 cf cf1
    go_enter Try.func17, Try.ntmps17
    go_wp2_with fail
    refine HF.out.mono ?_
    rintro e w2 ⟨rfl, hw2⟩
    subst hw2
    go_wp2
    go_ret2
    exact ⟨_, rfl, NowA.none (NowS.same HM.out (Below.refl _ _))⟩
  · obtain ⟨e2, e3⟩ := hne (by rw [e]; decide)
    rw [e, e2, e3]
    rw [decide_eq_true h] at F
    have HF := hide F
    have hw : IntKind.i64.wrap (s.n - s.f) = s.n - s.f := wrapB (by have := hO.f0; have := hO.fn; have := hO.n16; omega)
    obtain ⟨D, hD⟩ : ∃ D, s.n - s.f = D := ⟨_, rfl⟩
    have d1 : decide (D < m) = true := decide_eq_true (by omega)
    rw [hD] at hw
    have HD := hide hD
    have hw2 : IntKind.i64.wrap (s.n - s.f) = D := by rw [HD.out]; exact hw
    clear F hM e e2 e3 hne h h2 cf cf1 hO hw hD
    generalize s.n = n at *
    generalize s.f = f at *
    go_enter Try.func17, Try.ntmps17
    go_wp2_with fail
    refine HF.out.mono ?_
    rintro e w2 ⟨rfl, hw2⟩
    subst hw2
    go_wp2_with fail
    go_quiet (fail)
    go_wp2
    go_ret2
    exact ⟨_, rfl, NowA.none (NowS.same HM.out (below_drewN _ _))⟩
  · rw [e, show relO s m = serveO ⟨s.n, s.f + m, s.q⟩ from if_pos e, show relS s m = serveS ⟨s.n, s.f + m, s.q⟩ from if_pos e]
    rw [decide_eq_true h] at F
    have HF := hide F
    have hw : IntKind.i64.wrap (s.n - s.f) = s.n - s.f := wrapB (by have := hO.f0; have := hO.fn; have := hO.n16; omega)
    have hx : IntKind.i64.wrap (s.f + m) = s.f + m := wrapB (by have := hO.f0; have := hO.fn; have := hO.n16; have := h.1; omega)
    obtain ⟨D, hD⟩ : ∃ D, s.n - s.f = D := ⟨_, rfl⟩
    have d1 : decide (D < m) = false := decide_eq_false (by omega)
    rw [hD] at hw
    have HD := hide hD
    have hw2 : IntKind.i64.wrap (s.n - s.f) = D := by rw [HD.out]; exact hw
    obtain ⟨E, hE⟩ : ∃ E, s.f + m = E := ⟨_, rfl⟩
    have hx2 : IntKind.i64.wrap (s.f + m) = E := by rw [← hE]; exact hx
    have ok2 := rel_in hO h h2
    rw [hE] at ok2 ⊢
    have HS : Hid (∀ W, Below w.heap.size w W → NowS M base v ⟨s.n, E, s.q⟩ w (W.setCell ⟨M, 1, none⟩ (.int .i64 E))) := hide fun W k => (NowS.same hM k).trans fun _ hv => NowS.setF hv E
    have HSV : Hid (∀ v1 W, AtS W M base v1 ⟨s.n, E, s.q⟩ → Calls Try.prog 25 #[.pointer (some ⟨M, 0, none⟩)] W fun e w' => ∃ r, e = .returned r ∧ NowA M base v1 (serveS ⟨s.n, E, s.q⟩) (serveO ⟨s.n, E, s.q⟩) W r w') := hide fun v1 W k => serve_any M base v1 ⟨s.n, E, s.q⟩ ok2 hl W k
    clear F hM e hne h h2 cf hO hw hD hx hE ok2 HM
    generalize serveS ⟨s.n, E, s.q⟩ = s3 at *
    generalize serveO ⟨s.n, E, s.q⟩ = l3 at *
    obtain ⟨s2, hs2⟩ : ∃ s2 : Sm, s2 = ⟨s.n, E, s.q⟩ := ⟨_, rfl⟩
    rw [← hs2] at HS HSV
    clear hs2
    generalize s.n = n at *
    generalize s.f = f at *
    go_enter Try.func17, Try.ntmps17
    go_wp2_with fail
    refine HF.out.mono ?_
    rintro e w2 ⟨rfl, hw2⟩
    subst hw2
    go_wp2_with fail
    go_quiet (fail)
    go_wp2_with fail
    have HN := hide (HS.out _ (below_drewN w2 nq))
    obtain ⟨W, hW⟩ : ∃ W, W = (w2.drewN nq).setCell ⟨M, 1, none⟩ (.int .i64 E) := ⟨_, rfl⟩
    rw [← hW] at HN ⊢
    obtain ⟨v1, hA1, hV1, hW1⟩ := HN.out
    have HV1 := hide hV1
    have HW1 := hide hW1
    have HSV1 := hide (HSV.out v1 W hA1)
    clear hA1 hV1 hW1 HSV HS hW HF HN
    refine HSV1.out.mono ?_
    rintro e w4 ⟨r, rfl, hN⟩
    have HF : Hid (NowA M base v s3 l3 w2 r w4) := hide ⟨hN.1.next HV1.out HW1.out, owns_base hN.2 HV1.out.size⟩
    clear hN HSV1
    go_wp2
    go_ret2
    exact ⟨_, rfl, HF.out⟩

set_option maxHeartbeats 1000000 in
theorem drop_any (M base : Nat) (v : Value) (s : Sm) (hO : Okw s) (hl : s.q.length ≤ 1000) (t : Int) (w : World) (hM : AtS w M base v s) :
    Calls Try.prog 16 #[.pointer (some ⟨M, 0, none⟩), .int .i64 t] w fun e w' => ∃ r, e = .returned (.tuple #[r, .bool (dropB s t)]) ∧ NowA M base v (dropS s t) (dropO s t) w r w' := by
  have HM := hide hM
  have F := find_any M base v s hl t w hM
  cases hb : dropB s t
  · rw [show dropO s t = [] from if_neg (by rw [hb]; simp), show dropS s t = s from if_neg (by rw [hb]; simp)]
    rw [idx_out hb] at F
    have HF := hide F
    clear F hM hb
    go_enter Try.func16, Try.ntmps16
    go_wp2_with fail
    refine HF.out.mono ?_
    rintro e w2 ⟨rfl, hb2⟩
    have HB := hide hb2
    clear hb2
    go_wp2
    go_ret2
    exact ⟨_, rfl, NowA.none (NowS.same HM.out HB.out)⟩
  · rw [show dropO s t = serveO (lessD s t) from if_pos hb, show dropS s t = serveS (lessD s t) from if_pos hb]
    obtain ⟨h2, h3, h4⟩ := idx_here (l := s.q) (t := t) hb
    rw [h4] at F
    have HF := hide F
    have HSV : Hid (∀ v1 W, AtS W M base v1 (lessD s t) → Calls Try.prog 25 #[.pointer (some ⟨M, 0, none⟩)] W fun e w' => ∃ r, e = .returned r ∧ NowA M base v1 (serveS (lessD s t)) (serveO (lessD s t)) W r w') := hide fun v1 W k => serve_any M base v1 (lessD s t) (less_ok hO t) (Nat.le_trans (less_len s t) hl) W k
    obtain ⟨g, c, rfl, _, hgl, _, hc, _⟩ := row_openW hM.row (by omega)
    obtain ⟨_, _, c2, cf⟩ := hM.cells
    have hgM : g ≠ M := fun e => hM.far (by rw [e]; rfl)
    obtain ⟨i, hi⟩ : ∃ i, idxN s.q t = i := ⟨_, rfl⟩
    have hless : lessD s t = ⟨s.n, s.f, s.q.eraseIdx i⟩ := by rw [← hi]; rfl
    have HL2 : Hid (lessD s t = ⟨s.n, s.f, s.q.eraseIdx i⟩) := hless
    rw [hi] at h2 HF
    obtain ⟨L, hL⟩ : ∃ L, s.q.length = L := ⟨_, rfl⟩
    have HLL := hide hL
    rw [hL] at h2 hl hc HM c2 ⊢
    have HC := hide (fun W (k : Below w.heap.size w W) => (hM.below k))
    have HDl : Hid (∀ W, Below w.heap.size w W → Calls Try.prog 24 #[.slice (some ⟨g, 0, none⟩) L c, .int .i64 (i : Int), .int .i64 ((i : Int) + 1)] W fun e w' => e = .returned (.slice (some ⟨g, 0, none⟩) (i + (L - (i + 1))) c) ∧ w'.ownsRow base 56 2 (.slice (some ⟨g, 0, none⟩) (i + (L - (i + 1))) c) (i + (L - (i + 1))) (cW (s.q.eraseIdx i)) ∧ Mov (fun k => k = g) W w') := hide fun W k => by
      have := delete_any base g c L i (i + 1) s.q hL hl (by omega) rfl W (by have := (hM.below k).row; rw [hL] at this; exact this)
      exact this
    have HEL : Hid ((s.q.eraseIdx i).length = i + (L - (i + 1))) := hide (by rw [List.length_eraseIdx, hL, if_pos h2]; omega)
    have k0 : (0 : Int) ≤ (i : Int) := by omega
    have kw : IntKind.i64.wrap ((i : Int) + 1) = (i : Int) + 1 := wrapB (by omega)
    have hMl := hM.lt
    clear F hM hb h3 h4 hi hL hless hO
    generalize serveS (lessD s t) = s3 at *
    generalize serveO (lessD s t) = l3 at *
    go_enter Try.func16, Try.ntmps16
    go_wp2_with fail
    refine HF.out.mono ?_
    rintro e w2 ⟨rfl, hb2⟩
    have HB := hide hb2
    have d2 : w2.cell? ⟨M, 2, none⟩ = some (.slice (some ⟨g, 0, none⟩) L c) := by
      have := (HC.out _ hb2).cells.2.2.1
      rw [HLL.out] at this
      exact this
    have HD2 := hide (HDl.out _ hb2)
    clear hb2 c2 HF HDl cf
    go_wp2_with fail
    refine HD2.out.mono ?_
    rintro e w4 ⟨rfl, ho4, hm4⟩
    have hA2 := HC.out _ HB.out
    have hbox4 := (hm4.block M hA2.lt (fun e => hgM e.symm)).trans hA2.box
    have hfr : w4.frozen? ⟨M, 2, none⟩ = false := Lib.frozen_of_heap hbox4 2
    have hce : w4.cell? ⟨M, 2, none⟩ = some (.slice (some ⟨g, 0, none⟩) L c) := by
      have := Lib.cell_of_heap hbox4 2
      rw [HLL.out] at this
      exact this
    have HN4 : Hid (NowS M base (.slice (some ⟨g, 0, none⟩) L c) (lessD s t) w (w4.setCell ⟨M, 2, none⟩ (.slice (some ⟨g, 0, none⟩) (i + (L - (i + 1))) c))) := hide (by
      have h5 := NowS.same HM.out HB.out
      rw [HL2.out]
      refine NowS.next (Mov.of_below HB.out) (fun _ hk => Or.inr hk) (NowS.setQ (v := .slice (some ⟨g, 0, none⟩) L c) (x := .slice (some ⟨g, 0, none⟩) (i + (L - (i + 1))) c) (l := s.q.eraseIdx i) (by have := hA2; rw [HLL.out] at this; exact this) ⟨hm4.os, hm4.tape, hm4.output, hm4.size, fun k hk hS => hm4.block k hk (fun e => hS (by rw [e]; rfl))⟩ (by rw [HEL.out]; exact ho4) (fun k hk => Or.inr hk)))
    clear hbox4 hA2 ho4 hm4 HD2 HC HB d2 HEL HL2 HLL
    go_wp2_with fail
    obtain ⟨W, hW⟩ : ∃ W, W = w4.setCell ⟨M, 2, none⟩ (.slice (some ⟨g, 0, none⟩) (i + (L - (i + 1))) c) := ⟨_, rfl⟩
    rw [← hW] at HN4 ⊢
    obtain ⟨v1, hA1, hV1, hW1⟩ := HN4.out
    have HV1 := hide hV1
    have HW1 := hide hW1
    have HSV1 := hide (HSV.out v1 W hA1)
    clear hA1 hV1 hW1 HSV hW HN4 HM
    refine HSV1.out.mono ?_
    rintro e w5 ⟨r, rfl, hN⟩
    have HFF : Hid (NowA M base (.slice (some ⟨g, 0, none⟩) L c) s3 l3 w r w5) := hide ⟨hN.1.next HV1.out HW1.out, owns_base hN.2 HV1.out.size⟩
    clear hN HSV1
    go_wp2
    go_ret2
    exact ⟨_, rfl, HFF.out⟩

end Go.Proofs.Ytgldhlcdnijecaa
