/-
  What the document's Put comes to.
-/
import Derived.Test.YthadcampbchihaaRefWri
namespace Go.Proofs.Ythadcampbchihaa
open Go.RowKit

theorem cZ_set (l : List Int) (k : Nat) (v : Int) : cZ (l.set k v) = (cZ l).set k (.int .i64 v) := by simp [cZ, List.map_set]
/-- One number of a row is another one now. -/
theorem row_stored {w : World} {base g c k : Nat} {l : List Int} (h : w.ownsRow base 3 1 (.slice (some ⟨g, 0, none⟩) l.length c) l.length (cZ l)) (v : Int) : (w.setCell ⟨g, k, none⟩ (.int .i64 v)).ownsRow base 3 1 (.slice (some ⟨g, 0, none⟩) (l.set k v).length c) (l.set k v).length (cZ (l.set k v)) := by
  rw [cZ_set, List.length_set]
  exact (h.stored k _).1

set_option maxHeartbeats 2000000 in
theorem refPut_ok (R base : Nat) (u : Value) (s : Ws) (hO : Okw s) (t v : Int) (k : Nat) (hk : k < s.l.length) (h1 : ¬ t < 1) (h3 : t = s.wr) (w : World) (hR : AtR w R base u s) (hbs : base ≤ w.heap.size) :
    Calls Try.prog 25 #[.pointer (some ⟨R, 0, none⟩), .int .i64 t, .int .i64 (k : Int), .int .i64 v] w fun e w' => e = .returned (.int .i64 0) ∧ NowR R base u ⟨s.l.set k v, s.e, s.wr⟩ w w' := by
  have HW := hide (writes_any R base u s t w hR)
  rw [wri_yes h1 h3] at HW
  obtain ⟨_, _, c2, _, _⟩ := hR.cells
  obtain ⟨av, ac, hv⟩ := owns_slice hR.row
  subst hv
  have hRl := hR.lt
  have h4 := hO.l4
  have i1 : ¬ (k : Int) < 0 := by omega
  have i2 : ¬ (s.l.length : Int) ≤ (k : Int) := by omega
  have i3 : (k : Int) < (s.l.length : Int) := by omega
  have i4 : (0 : Int) ≤ (k : Int) := by omega
  have HR := hide hR
  have HK := hide hk
  clear hR hO h3 hk
  obtain ⟨l, E, W0⟩ := s
  simp only at HR HK c2 h4 i2 i3 ⊢
  have HL : Hid (l.length = l.length) := hide rfl
  generalize hL : l.length = L at c2 h4 i2 i3 HL
  clear HL
  have HL := hide hL
  rw [hL] at HR
  clear hL
  go_enter Try.func25, Try.ntmps25
  go_wp2_with fail
  refine HW.out.mono ?_
  rintro e w3 ⟨rfl, hb⟩
  have HR3 := hide (HR.out.below hb)
  have HB3 := hide hb
  have hRl3 : R < w3.heap.size := Nat.lt_of_lt_of_le hRl hb.size
  have hbs3 : base ≤ w3.heap.size := Nat.le_trans hbs hb.size
  obtain ⟨_, _, d2, _, _⟩ := HR3.out.cells
  have hl0 := lit0 w3
  have hb0 := below1 w3 (.cells #[] 3)
  have HZ3 : Hid (RowZ w3 av l) := hide (by have := HR3.out.row; rw [← HL.out] at this; exact owns_rowZ this)
  clear HR HW hb c2 hRl hbs
  go_wp2_with (at_builtin; refine wpList_append_z _ rfl _ _ rfl w3.heap.size _ 0 [] rfl hl0 av L ac l rfl HL.out (HZ3.out.below hb0) (by omega) (by simp) ?_)
  intro a4 c4 w4 ho4 hg4
  have hb4 : Below w3.heap.size w3 w4 := below_own hb0 hl0 hg4
  have ho5 : w4.ownsRow w3.heap.size 3 1 (.slice a4 l.length c4) l.length (cZ l) := by rw [HL.out]; simpa using ho4
  obtain ⟨g, c', hv, hgb, hgl, hcell, _⟩ := row_open ho5 (by have := HK.out; omega)
  rw [HL.out] at hv
  injection hv with hv1 _ hv3
  subst hv1
  subst hv3
  obtain ⟨ck, fk⟩ := hcell k HK.out
  have hRg : R ≠ g := by omega
  have HF : Hid (NowR R base (.slice av L ac) ⟨l.set k v, E, W0⟩ w3 ((w4.setCell ⟨g, k, none⟩ (.int .i64 v)).setCell ⟨R, 2, none⟩ (.slice (some ⟨g, 0, none⟩) L c4))) := hide (by
    have hs := row_stored (k := k) ho5 v
    have := fin_row HR3.out hbs3 (hb4.setCell (p := ⟨g, k, none⟩) hgb _) hs
    rw [List.length_set, HL.out] at this
    exact this)
  obtain ⟨_, _, e2, _, ef⟩ := (HR3.out.below hb4).cells
  have ef2 := ef 2
  have hRl4 : R < w4.heap.size := Nat.lt_of_lt_of_le hRl3 hb4.size
  generalize gz l k = G at ck
  have HG : Hid (∀ w9, NowR R base (.slice av L ac) ⟨l.set k v, E, W0⟩ w3 w9 → NowR R base (.slice av L ac) ⟨l.set k v, E, W0⟩ w w9) := hide fun w9 h => NowR.first HB3.out h
  clear ho4 hg4 ho5 hb4 hcell ef HR3 HZ3 hl0 hb0 d2 hRl3 hbs3 HB3 hgb
  go_wp2
  go_ret
  exact ⟨rfl, HG.out _ HF.out⟩

set_option maxHeartbeats 1000000 in
theorem refPut_any (R base : Nat) (u : Value) (s : Ws) (hO : Okw s) (t i v : Int) (w : World) (hR : AtR w R base u s) (hbs : base ≤ w.heap.size) :
    Calls Try.prog 25 #[.pointer (some ⟨R, 0, none⟩), .int .i64 t, .int .i64 i, .int .i64 v] w fun e w' => e = .returned (.int .i64 (putE s t i)) ∧ NowR R base u (putS s t i v) w w' := by
  by_cases h1 : t < 1
  · obtain ⟨e1, e2⟩ := put_low (s := s) (i := i) (v := v) h1
    rw [e1, e2]
    have HR := hide hR
    clear e1 e2 hR hO
    go_enter Try.func25, Try.ntmps25
    go_wp2
    go_ret
    exact ⟨rfl, NowR.same HR.out (Below.refl _ _)⟩
  cases hb : hasI s.l i
  · obtain ⟨e1, e2⟩ := put_out (v := v) h1 hb
    rw [e1, e2]
    obtain ⟨_, _, c2, _, _⟩ := hR.cells
    obtain ⟨av, ac, hv⟩ := owns_slice hR.row
    subst hv
    have HR := hide hR
    clear e1 e2 hR hO
    rcases has_not hb with h | ⟨h2, h3⟩
    · clear hb
      go_enter Try.func25, Try.ntmps25
      go_wp2
      go_ret
      exact ⟨rfl, NowR.same HR.out (Below.refl _ _)⟩
    · have h5 : (s.l.length : Int) ≤ i := by omega
      have h4 : ¬ i < 0 := by omega
      clear hb
      go_enter Try.func25, Try.ntmps25
      go_wp2
      go_ret
      exact ⟨rfl, NowR.same HR.out (Below.refl _ _)⟩
  · obtain ⟨k, rfl, hk⟩ := has_at hb
    by_cases h3 : t = s.wr
    · obtain ⟨e1, e2⟩ := put_ok (v := v) h1 hb h3
      rw [e1, e2]
      exact refPut_ok R base u s hO t v k hk h1 h3 w hR hbs
    · obtain ⟨e1, e2⟩ := put_not (v := v) h1 hb h3
      rw [e1, e2]
      have HW := hide (writes_any R base u s t w hR)
      rw [wri_no h3] at HW
      obtain ⟨_, _, c2, _, _⟩ := hR.cells
      obtain ⟨av, ac, hv⟩ := owns_slice hR.row
      subst hv
      have i1 : ¬ (k : Int) < 0 := by omega
      have i2 : ¬ (s.l.length : Int) ≤ (k : Int) := by omega
      have HR := hide hR
      clear e1 e2 hR hO hb
      go_enter Try.func25, Try.ntmps25
      go_wp2_with fail
      refine HW.out.mono ?_
      rintro e w2 ⟨rfl, hb⟩
      go_wp2
      go_ret
      exact ⟨rfl, NowR.same HR.out hb⟩

end Go.Proofs.Ythadcampbchihaa
