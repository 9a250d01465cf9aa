/-
  What the document's Wait comes to.
-/
import Derived.Test.YtgfkleaekaggoaaRef
namespace Go.Proofs.Ytgfkleaekaggoaa
open Go.RowKit

theorem one_z {W : World} {g : Nat} {t : Int} (hg : g < W.heap.size) (h : W.cell? ⟨g, 0, none⟩ = some (.int .i64 t)) : RowZ W (some ⟨g, 0, none⟩) [t] := fun _ => ⟨g, 0, rfl, hg, fun k hk => by
  obtain rfl : k = 0 := by simp at hk; omega
  exact h⟩

set_option maxHeartbeats 2000000 in
theorem refWait_new (R base : Nat) (u : Value) (o c : Int) (l : List Int) (hl : l.length ≤ 1000) (t : Int) (h1 : ¬ t < 1) (hb : inZ l t = false) (hc : ¬ c = 0) (w : World) (hR : AtR w R base u o c l) (hbs : base ≤ w.heap.size) :
    Calls Try.prog 12 #[.pointer (some ⟨R, 0, none⟩), .int .i64 t] w fun e w' => e = .returned (.int .i64 14) ∧ NowR R base u o c (l ++ [t]) w w' := by
  have A := at_any R base u o c l hl t w hR
  rw [idx_out hb] at A
  have HA := hide A
  obtain ⟨c0, c1, c2, cf⟩ := hR.cells
  obtain ⟨av, ac, hv⟩ := owns_slice hR.row
  subst hv
  have HR := hide hR
  have HZ := hide (owns_rowZ hR.row)
  have hRl := hR.lt
  have hne : ¬ o + c = o := by omega
  clear hR A cf hb
  generalize hL : l.length = L at *
  have HL := hide hL
  clear hL
  generalize o + c = I at c0 hne
  go_enter Try.func12, Try.ntmps12
  go_wp2_with fail
  refine HA.out.mono ?_
  rintro e w2 ⟨rfl, hw2⟩
  subst hw2
  go_wp2_with fail
  go_quiet (fail)
  have hbW : Below w2.heap.size w2 (w2.drewN nq) := below_drewN _ _
  generalize w2.drewN nq = w3 at hbW ⊢
  have HR3 := hide (HR.out.below hbW)
  have HZ3 := hide (HZ.out.below hbW)
  have hRl3 : R < w3.heap.size := Nat.lt_of_lt_of_le hRl hbW.size
  have hbs3 : base ≤ w3.heap.size := Nat.le_trans hbs hbW.size
  have hl0 := lit0 w3
  have hb0 := below1 w3 (.cells #[] 3)
  obtain ⟨_, _, c2, _⟩ := HR3.out.cells
  have HB := hide hbW
  have fin : Hid (∀ a4 c4 w4, Below w3.heap.size w3 w4 → w4.ownsRow w3.heap.size 3 1 (.slice a4 (L + 1) c4) (L + 1) (cZ (l ++ [t])) → NowR R base (.slice av L ac) o c (l ++ [t]) w2 (w4.setCell ⟨R, 2, none⟩ (.slice a4 (L + 1) c4))) := hide fun a4 c4 w4 hb4 ho4 =>
    NowR.first HB.out (fin_row HR3.out hbs3 hb4 (by rw [List.length_append, HL.out]; exact ho4))
  clear hbW HR HZ hRl hbs HA
  go_wp2_with (at_builtin; refine wpList_append_z _ rfl _ _ rfl w3.heap.size _ 0 [] rfl hl0 av L ac l rfl HL.out (HZ3.out.below hb0) (by omega) (by simp) ?_)
  intro a4 c4 w4 ho4 hg4
  have hb4 : Below w3.heap.size w3 w4 := below_own hb0 hl0 hg4
  have hz4 := hb4.size
  go_wp2_with (at_builtin; refine wpList_append_z _ rfl _ _ rfl w3.heap.size _ L l rfl (ho4.alloc _) (some ⟨w4.heap.size, 0, none⟩) 1 1 [t] rfl rfl (one_z (by simp) (by simp)) (by omega) (by simp; omega) ?_)
  intro a5 c5 w5 ho5 hg5
  have hb5 : Below w3.heap.size w3 w5 := below_own (hb4.alloc hz4 _) (ho4.alloc _) hg5
  have HF := hide (fin.out a5 c5 w5 hb5 ho5)
  obtain ⟨_, _, d2, df⟩ := (HR3.out.below hb5).cells
  have df2 := df 2
  have hRl5 : R < w5.heap.size := Nat.lt_of_lt_of_le hRl3 hb5.size
  clear hg4 ho4 hg5 ho5 hb4 hz4 hb5 df fin HR3 HZ3 hl0 hb0 c2 hRl3 hbs3
  go_wp2
  go_ret
  refine ⟨rfl, ?_⟩
  exact HF.out

set_option maxHeartbeats 1000000 in
theorem refWait_any (R base : Nat) (u : Value) (o c : Int) (l : List Int) (hl : l.length ≤ 1000) (t : Int) (w : World) (hR : AtR w R base u o c l) (hbs : base ≤ w.heap.size) :
    Calls Try.prog 12 #[.pointer (some ⟨R, 0, none⟩), .int .i64 t] w fun e w' => e = .returned (.int .i64 (waitE c l t)) ∧ NowR R base u o c (waitL c l t) w w' := by
  by_cases h1 : t < 1
  · obtain ⟨e1, e2⟩ := wait_low (c := c) (l := l) h1
    rw [e1, e2]
    have HR := hide hR
    clear e1 e2 hR
    go_enter Try.func12, Try.ntmps12
    go_wp2
    go_ret
    exact ⟨rfl, NowR.same HR.out (Below.refl _ _)⟩
  · cases hb : inZ l t
    · by_cases hc : c = 0
      · obtain ⟨e1, e2⟩ := wait_zero h1 hb hc
        rw [e1, e2]
        subst hc
        have A := at_any R base u o 0 l hl t w hR
        rw [idx_out hb] at A
        have HA := hide A
        obtain ⟨c0, c1, _, _⟩ := hR.cells
        rw [Int.add_zero] at c0
        have HR := hide hR
        have oo : (o == o) = true := by simp
        clear hR A hb e1 e2
        go_enter Try.func12, Try.ntmps12
        go_wp2_with fail
        refine HA.out.mono ?_
        rintro e w2 ⟨rfl, hw2⟩
        subst hw2
        go_wp2_with fail
        go_quiet (fail)
        have hbW : Below w2.heap.size w2 (w2.drewN nq) := below_drewN _ _
        generalize w2.drewN nq = w3 at hbW ⊢
        have HB := hide hbW
        clear hbW
        go_wp2
        go_ret
        exact ⟨rfl, NowR.same HR.out HB.out⟩
      · obtain ⟨e1, e2⟩ := wait_new h1 hb hc
        rw [e1, e2]
        exact refWait_new R base u o c l hl t h1 hb hc w hR hbs
    · obtain ⟨e1, e2⟩ := wait_in (c := c) h1 hb
      rw [e1, e2]
      obtain ⟨k, _, q2, _⟩ := idx_in hb
      have A := at_any R base u o c l hl t w hR
      rw [q2] at A
      have HA := hide A
      have HR := hide hR
      have hk : (0 : Int) ≤ (k : Int) := by omega
      clear hR A hb q2 e1 e2
      go_enter Try.func12, Try.ntmps12
      go_wp2_with fail
      refine HA.out.mono ?_
      rintro e w2 ⟨rfl, hw2⟩
      subst hw2
      go_wp2
      go_ret
      exact ⟨rfl, NowR.same HR.out (Below.refl _ _)⟩

end Go.Proofs.Ytgfkleaekaggoaa
