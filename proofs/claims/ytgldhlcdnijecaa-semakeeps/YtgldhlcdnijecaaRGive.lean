/-
  What the document's Release and Drop come to.
-/
import Derived.Test.YtgldhlcdnijecaaRServe
namespace Go.Proofs.Ytgldhlcdnijecaa
open Go.RowKit

set_option maxHeartbeats 1000000 in
theorem rrel_any (R base : Nat) (u : Vs) (s : Sm) (hO : Okw s) (hl : s.q.length ≤ 1000) (m : Int) (w : World) (hR : AtR w R base u s) (hbs : base ≤ w.heap.size) :
    Calls Try.prog 22 #[.pointer (some ⟨R, 0, none⟩), .int .i64 m] w fun e w' => ∃ r, e = .returned (.tuple #[r, .int .i64 (relE s m)]) ∧ NowD R base u (relS s m) (relO s m) w r w' := by
  have HR := hide hR
  have hne : relE s m ≠ 0 → relO s m = [] ∧ relS s m = s := fun h => ⟨if_neg h, if_neg h⟩
  obtain ⟨c0, c1, _, _, cf⟩ := hR.cells
  have cf1 := cf 1
  have hRl := hR.lt
  rcases rel_cases s m with ⟨e, h⟩ | ⟨e, h, h2⟩ | ⟨e, h, h2⟩
  · obtain ⟨e2, e3⟩ := hne (by rw [e]; decide)
    rw [e, e2, e3]
    clear hR e e2 e3 hne cf cf1 c1
    by_cases h1 : m < 1
    · clear h
      go_enter Try.func22, Try.ntmps22
      go_wp2
      go_ret2
      exact ⟨_, rfl, NowD.none (NowR.same HR.out (Below.refl _ _))⟩
    · have h3 : s.n < m := by
        by_cases q : s.n < m
        · exact q
        · exact absurd ⟨by omega, by omega⟩ h
      clear h
      generalize s.n = n at *
      go_enter Try.func22, Try.ntmps22
      go_wp2
      go_ret2
      exact ⟨_, rfl, NowD.none (NowR.same HR.out (Below.refl _ _))⟩
  · obtain ⟨e2, e3⟩ := hne (by rw [e]; decide)
    rw [e, e2, e3]
    obtain ⟨K, hK⟩ : ∃ K, s.n - s.f = K := ⟨_, rfl⟩
    rw [hK] at c1 h2
    have h1 : decide (m < 1) = false := decide_eq_false (by have := h.1; omega)
    have h3 : decide (s.n < m) = false := decide_eq_false (by have := h.2; omega)
    clear hR e e2 e3 hne cf cf1 h hO hK
    generalize s.n = n at *
    go_enter Try.func22, Try.ntmps22
    go_wp2
    go_ret2
    exact ⟨_, rfl, NowD.none (NowR.same HR.out (Below.refl _ _))⟩
  · rw [e, show relO s m = serveO ⟨s.n, s.f + m, s.q⟩ from if_pos e, show relS s m = serveS ⟨s.n, s.f + m, s.q⟩ from if_pos e]
    obtain ⟨K, hK⟩ : ∃ K, s.n - s.f = K := ⟨_, rfl⟩
    obtain ⟨E, hE⟩ : ∃ E, s.f + m = E := ⟨_, rfl⟩
    have ok2 := rel_in hO h h2
    rw [hE] at ok2 ⊢
    have hD : K - m = s.n - E := by omega
    have hw : IntKind.i64.wrap (K - m) = s.n - E := by rw [hD]; exact wrapB (by have := hO.f0; have := hO.fn; have := hO.n16; have := h.1; have := h.2; omega)
    have h1 : decide (m < 1) = false := decide_eq_false (by have := h.1; omega)
    have h3 : decide (s.n < m) = false := decide_eq_false (by have := h.2; omega)
    have h4 : decide (K < m) = false := decide_eq_false (by omega)
    rw [hK] at c1
    have HS : Hid (AtR (w.setCell ⟨R, 1, none⟩ (.int .i64 (s.n - E))) R base u ⟨s.n, E, s.q⟩ ∧ Mov (MineR R u) w (w.setCell ⟨R, 1, none⟩ (.int .i64 (s.n - E)))) := ⟨hR.setF E, (Mov.refl _ _).set (p := ⟨R, 1, none⟩) (Or.inl rfl) _⟩
    have HSV : Hid (∀ W, AtR W R base u ⟨s.n, E, s.q⟩ → base ≤ W.heap.size → Calls Try.prog 29 #[.pointer (some ⟨R, 0, none⟩)] W fun e w' => ∃ r, e = .returned r ∧ NowD R base u (serveS ⟨s.n, E, s.q⟩) (serveO ⟨s.n, E, s.q⟩) W r w') := hide fun W k hb => rserve_any R base u ⟨s.n, E, s.q⟩ ok2 hl W k hb
    clear hR e hne h h2 cf hO hD hE ok2 HR hK
    generalize serveS ⟨s.n, E, s.q⟩ = s3 at *
    generalize serveO ⟨s.n, E, s.q⟩ = l3 at *
    obtain ⟨s2, hs2⟩ : ∃ s2 : Sm, s2 = ⟨s.n, E, s.q⟩ := ⟨_, rfl⟩
    rw [← hs2] at HS HSV
    clear hs2
    obtain ⟨T, hT⟩ : ∃ T, s.n - E = T := ⟨_, rfl⟩
    rw [hT] at hw HS
    clear hT
    generalize s.n = n at *
    go_enter Try.func22, Try.ntmps22
    go_wp2_with fail
    obtain ⟨W, hW⟩ : ∃ W, W = w.setCell ⟨R, 1, none⟩ (.int .i64 T) := ⟨_, rfl⟩
    rw [← hW] at HS ⊢
    have HSV1 := hide (HSV.out W HS.out.1 (Nat.le_trans hbs HS.out.2.size))
    have HV := hide HS.out.2
    clear HSV HS hW
    refine HSV1.out.mono ?_
    rintro e w4 ⟨r, rfl, hN⟩
    have HF : Hid (NowD R base u s3 l3 w r w4) := hide ⟨hN.1.next HV.out (fun _ hk => Or.inr hk), owns_base hN.2 HV.out.size⟩
    clear hN HSV1
    go_wp2
    go_ret2
    exact ⟨_, rfl, HF.out⟩

set_option maxHeartbeats 1000000 in
theorem rdrop_any (R base : Nat) (u : Vs) (s : Sm) (hO : Okw s) (hl : s.q.length ≤ 1000) (t : Int) (w : World) (hR : AtR w R base u s) (hbs : base ≤ w.heap.size) :
    Calls Try.prog 20 #[.pointer (some ⟨R, 0, none⟩), .int .i64 t] w fun e w' => ∃ r, e = .returned (.tuple #[r, .bool (dropB s t)]) ∧ NowD R base u (dropS s t) (dropO s t) w r w' := by
  have HR := hide hR
  have F := at_any R base u s hl t w hR
  cases hb : dropB s t
  · rw [show dropO s t = [] from if_neg (by rw [hb]; simp), show dropS s t = s from if_neg (by rw [hb]; simp)]
    rw [idx_out hb] at F
    have HF := hide F
    clear F hR hb
    go_enter Try.func20, Try.ntmps20
    go_wp2_with fail
    refine HF.out.mono ?_
    rintro e w2 ⟨rfl, hw2⟩
    subst hw2
    go_wp2
    go_ret2
    exact ⟨_, rfl, NowD.none (NowR.same HR.out (Below.refl _ _))⟩
  · rw [show dropO s t = serveO (lessD s t) from if_pos hb, show dropS s t = serveS (lessD s t) from if_pos hb]
    obtain ⟨h2, h3, h4⟩ := idx_here (l := s.q) (t := t) hb
    rw [h4] at F
    have HF := hide F
    have HSV : Hid (∀ u1 W, AtR W R base u1 (lessD s t) → base ≤ W.heap.size → Calls Try.prog 29 #[.pointer (some ⟨R, 0, none⟩)] W fun e w' => ∃ r, e = .returned r ∧ NowD R base u1 (serveS (lessD s t)) (serveO (lessD s t)) W r w') := hide fun u1 W k hb => rserve_any R base u1 (lessD s t) (less_ok hO t) (Nat.le_trans (less_len s t) hl) W k hb
    have HO := hide (out_any R base u s hl (idxN s.q t) h2 w hR hbs)
    have hless : (⟨s.n, s.f, s.q.eraseIdx (idxN s.q t)⟩ : Sm) = lessD s t := rfl
    rw [hless] at HO
    have k0 : (0 : Int) ≤ ((idxN s.q t : Nat) : Int) := by omega
    clear F hR hb h2 h3 h4 hless hO HR
    generalize serveS (lessD s t) = s3 at *
    generalize serveO (lessD s t) = l3 at *
    generalize idxN s.q t = i at *
    go_enter Try.func20, Try.ntmps20
    go_wp2_with fail
    refine HF.out.mono ?_
    rintro e w2 ⟨rfl, hw2⟩
    subst hw2
    go_wp2_with fail
    refine HO.out.mono ?_
    rintro e w3 ⟨rfl, u1, hA1, hV1, hW1⟩
    have HV1 := hide hV1
    have HW1 := hide hW1
    have HSV1 := hide (HSV.out u1 w3 hA1 (Nat.le_trans hbs hV1.size))
    clear hA1 hV1 hW1 HSV HO HF
    go_wp2_with fail
    refine HSV1.out.mono ?_
    rintro e w4 ⟨r, rfl, hN⟩
    have HFF : Hid (NowD R base u s3 l3 w2 r w4) := hide ⟨hN.1.next HV1.out HW1.out, owns_base hN.2 HV1.out.size⟩
    clear hN HSV1
    go_wp2
    go_ret2
    exact ⟨_, rfl, HFF.out⟩

end Go.Proofs.Ytgldhlcdnijecaa
