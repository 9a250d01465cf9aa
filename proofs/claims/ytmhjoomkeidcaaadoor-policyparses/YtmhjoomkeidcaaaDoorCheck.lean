/-
  What policy.Check comes to: the error of the first thing that is wrong of a policy, or none.
-/
import Derived.Test.YtmhjoomkeidcaaaDoorSlots
namespace Go.Proofs.YtmhjoomkeidcaaaDoor
open Go.RowKit L2

/-- A policy's three lists as they lie in memory. -/
structure Held (w : World) (a1 a2 a3 : Option Addr) (c1 c2 c3 : Nat) (p : Pol) : Prop where
  d : Lies w a1 (cellsD p.ds)
  s : Lies w a2 (cellsS p.ss)
  l : Lies w a3 (cellsL p.ls)
  dc : p.ds.length ≤ c1
  sc : p.ss.length ≤ c2
  lc : p.ls.length ≤ c3
theorem Held.below {w w' : World} {a1 a2 a3 : Option Addr} {c1 c2 c3 : Nat} {p : Pol} (h : Held w a1 a2 a3 c1 c2 c3 p) (k : Below w.heap.size w w') : Held w' a1 a2 a3 c1 c2 c3 p :=
  ⟨h.d.below k, h.s.below k, h.l.below k, h.dc, h.sc, h.lc⟩

/-- Three lists that were just laid. -/
theorem pol_cells {W w' : World} {x y z : Value} (h : Below (W.alloc (.cells #[x, y, z] 26)).heap.size (W.alloc (.cells #[x, y, z] 26)) w') :
    W.heap.size < w'.heap.size ∧ w'.cell? ⟨W.heap.size, 0, none⟩ = some x ∧ w'.cell? ⟨W.heap.size, 1, none⟩ = some y ∧ w'.cell? ⟨W.heap.size, 2, none⟩ = some z := by
  have hs := h.size
  simp at hs
  refine ⟨by omega, ?_, ?_, ?_⟩
  all_goals
    rw [h.cell (by simp)]
    simp [go_sem]

theorem countB_bounds {nd ns nl : Nat} (h : countB nd ns nl = true) : 1 ≤ nd ∧ nd ≤ 8 ∧ 1 ≤ ns ∧ ns ≤ 16 ∧ nl ≤ 8 := by
  unfold countB inB at h
  simp at h
  omega

set_option maxHeartbeats 4000000 in
theorem check_any (a1 a2 a3 : Option Addr) (nd ns nl c1 c2 c3 : Nat) (p : Pol) (w : World) (h1 : p.ds.length = nd) (h2 : p.ss.length = ns) (h3 : p.ls.length = nl) (hh : Held w a1 a2 a3 c1 c2 c3 p) :
    Calls Tryd.prog 10 #[.agg #[.slice a1 nd c1, .slice a2 ns c2, .slice a3 nl c3]] w fun e w' => e = .returned (.int .i64 (checkOf p : Nat)) ∧ Below w.heap.size w w' := by
  have HH : Hid (Held w a1 a2 a3 c1 c2 c3 p) := hh
  clear hh
  have hC := fun W => counts_any a1 a2 a3 nd c1 ns c2 nl c3 W
  cases hc : countB nd ns nl
  · rw [hc] at hC
    have HX : Hid (checkOf p = 1) := by
      unfold checkOf
      rw [countB_of, h1, h2, h3, hc]; exact rfl
    go_enter Tryd.func10, Tryd.ntmps10
    go_wp2_with fail
    refine (hC _).mono ?_
    rintro e w1 ⟨rfl, hb1⟩
    go_wp2
    go_ret
    exact ⟨by rw [HX.out]; rfl, (below1 _ _).trans (hb1.mono (by simp))⟩
  · rw [hc] at hC
    have hbd := countB_bounds hc
    have HX : Hid (checkOf p = if domsE p.ds ≠ 0 then domsE p.ds else if slotsE nd p.ss ≠ 0 then slotsE nd p.ss else linksE p.ds p.ls) := by
      unfold checkOf
      rw [countB_of, h1, h2, h3, hc]; exact rfl
    have hD := fun W hrow => domains_any a1 nd c1 p.ds W h1 (by omega) (by have := HH.out.dc; omega) hrow
    have hS := fun W hrow => slots_any a2 ns c2 nd p.ss W h2 (by omega) (by omega) hrow
    have hL := fun W hrow hrod => links_any a3 a1 nl c3 nd c1 p.ls p.ds W h3 (by omega) h1 (by omega) hrow hrod
    have HL : Hid (∀ W, Lies W a3 (cellsL p.ls) → Lies W a1 (cellsD p.ds) → Calls Tryd.prog 23 #[.slice a3 nl c3, .slice a1 nd c1] W fun e w' => e = .returned (.int .i64 (linksE p.ds p.ls : Nat)) ∧ Below W.heap.size W w') := hL
    clear hL
    generalize domsE p.ds = de at *
    generalize slotsE nd p.ss = se at *
    generalize linksE p.ds p.ls = le at *
    by_cases hd : de = 0
    · by_cases hs : se = 0
      · rw [hd] at HX hD
        rw [hs] at HX hS
        have HY : Hid (checkOf p = le) := HX.out
        clear hd hs HX
        go_enter Tryd.func10, Tryd.ntmps10
        go_wp2_with fail
        refine (hC _).mono ?_
        rintro e w1 ⟨rfl, hb1⟩
        obtain ⟨hz1, x0, x1, x2⟩ := pol_cells hb1
        have hB1 : Below w.heap.size w w1 := (below1 _ _).trans (hb1.mono (by simp))
        clear hb1
        go_wp2_with fail
        refine (hD _ (HH.out.below hB1).d).mono ?_
        rintro e w2 ⟨rfl, hb2⟩
        obtain ⟨cc, _⟩ := bcell hb2
        have y0 := (cc w.heap.size 0 hz1).trans x0
        have y1 := (cc w.heap.size 1 hz1).trans x1
        have y2 := (cc w.heap.size 2 hz1).trans x2
        have hz2 : w.heap.size < w2.heap.size := by have := hb2.size; omega
        have hB2 := below_next hB1 hb2
        clear cc hb2 hB1 x0 x1 x2 hz1
        go_wp2_with fail
        refine (hS _ (HH.out.below hB2).s).mono ?_
        rintro e w3 ⟨rfl, hb3⟩
        obtain ⟨cc, _⟩ := bcell hb3
        have x0 := (cc w.heap.size 0 hz2).trans y0
        have x1 := (cc w.heap.size 1 hz2).trans y1
        have x2 := (cc w.heap.size 2 hz2).trans y2
        have hz3 : w.heap.size < w3.heap.size := by have := hb3.size; omega
        have hB3 := below_next hB2 hb3
        clear cc hb3 hB2 y0 y1 y2 hz2
        go_wp2_with fail
        refine (HL.out _ (HH.out.below hB3).l (HH.out.below hB3).d).mono ?_
        rintro e w4 ⟨rfl, hb4⟩
        go_wp2
        go_ret
        exact ⟨by rw [HY.out]; rfl, below_next hB3 hb4⟩
      · rw [hd] at HX hD
        have HY : Hid (checkOf p = se) := HX.out.trans (if_pos hs)
        have hse : ((se : Int) != 0) = true := by simp; omega
        clear hd hs HX
        go_enter Tryd.func10, Tryd.ntmps10
        go_wp2_with fail
        refine (hC _).mono ?_
        rintro e w1 ⟨rfl, hb1⟩
        obtain ⟨hz1, x0, x1, x2⟩ := pol_cells hb1
        have hB1 : Below w.heap.size w w1 := (below1 _ _).trans (hb1.mono (by simp))
        clear hb1
        go_wp2_with fail
        refine (hD _ (HH.out.below hB1).d).mono ?_
        rintro e w2 ⟨rfl, hb2⟩
        obtain ⟨cc, _⟩ := bcell hb2
        have y0 := (cc w.heap.size 0 hz1).trans x0
        have y1 := (cc w.heap.size 1 hz1).trans x1
        have hz2 : w.heap.size < w2.heap.size := by have := hb2.size; omega
        have hB2 := below_next hB1 hb2
        clear cc hb2 hB1 x0 x1 x2 hz1
        go_wp2_with fail
        refine (hS _ (HH.out.below hB2).s).mono ?_
        rintro e w3 ⟨rfl, hb3⟩
        go_wp2
        go_ret
        exact ⟨by rw [HY.out]; rfl, below_next hB2 hb3⟩
    · have HY : Hid (checkOf p = de) := HX.out.trans (if_pos hd)
      have hde : ((de : Int) != 0) = true := by simp; omega
      clear hd HX
      go_enter Tryd.func10, Tryd.ntmps10
      go_wp2_with fail
      refine (hC _).mono ?_
      rintro e w1 ⟨rfl, hb1⟩
      obtain ⟨hz1, x0, x1, x2⟩ := pol_cells hb1
      have hB1 : Below w.heap.size w w1 := (below1 _ _).trans (hb1.mono (by simp))
      clear hb1
      go_wp2_with fail
      refine (hD _ (HH.out.below hB1).d).mono ?_
      rintro e w2 ⟨rfl, hb2⟩
      go_wp2
      go_ret
      exact ⟨by rw [HY.out]; rfl, below_next hB1 hb2⟩

end Go.Proofs.YtmhjoomkeidcaaaDoor
