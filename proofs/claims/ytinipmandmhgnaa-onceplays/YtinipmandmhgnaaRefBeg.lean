/-
  What the document's Begin comes to.
-/
import Derived.Test.YtinipmandmhgnaaRef
namespace Go.Proofs.Ytinipmandmhgnaa
open Go.RowKit

theorem beg_low {l : List Int} {o : Bool} {t : Int} (h1 : t < 1) : begB l o t = false ∧ begE l o t = 1 ∧ begL l o t = l := ⟨if_pos h1, if_pos h1, if_pos h1⟩
theorem beg_over {l : List Int} {o : Bool} {t : Int} (h1 : ¬ t < 1) (h2 : o = true) : begB l o t = false ∧ begE l o t = 0 ∧ begL l o t = l :=
  ⟨(if_neg h1).trans (if_pos h2), (if_neg h1).trans (if_pos h2), (if_neg h1).trans (if_pos h2)⟩
theorem beg_in {l : List Int} {o : Bool} {t : Int} (h1 : ¬ t < 1) (h2 : o = false) (h3 : inZ l t = true) : begB l o t = false ∧ begE l o t = 11 ∧ begL l o t = l := by
  have h2' : ¬ o = true := by rw [h2]; simp
  exact ⟨(if_neg h1).trans ((if_neg h2').trans (if_pos h3)), (if_neg h1).trans ((if_neg h2').trans (if_pos h3)), (if_neg h1).trans ((if_neg h2').trans (if_pos h3))⟩
theorem beg_new {l : List Int} {o : Bool} {t : Int} (h1 : ¬ t < 1) (h2 : o = false) (h3 : inZ l t = false) : begB l o t = decide (l = []) ∧ begE l o t = (if l = [] then 0 else 14) ∧ begL l o t = l ++ [t] := by
  have h2' : ¬ o = true := by rw [h2]; simp
  have h3' : ¬ inZ l t = true := by rw [h3]; simp
  refine ⟨((if_neg h1).trans ((if_neg h2').trans (if_neg h3'))).trans ?_, (if_neg h1).trans ((if_neg h2').trans (if_neg h3')), (if_neg h1).trans ((if_neg h2').trans (if_neg h3'))⟩
  by_cases hn : l = []
  · rw [if_pos hn, decide_eq_true hn]
  · rw [if_neg hn, decide_eq_false hn]
theorem one_z {W : World} {g : Nat} {t : Int} (hg : g < W.heap.size) (h : W.cell? ⟨g, 0, none⟩ = some (.int .i64 t)) : RowZ W (some ⟨g, 0, none⟩) [t] := fun _ => ⟨g, 0, rfl, hg, fun k hk => by
  obtain rfl : k = 0 := by simp at hk; omega
  exact h⟩

set_option maxHeartbeats 2000000 in
theorem refBeg_new (R base : Nat) (u : Value) (l : List Int) (hl : l.length ≤ 1000) (t : Int) (h1 : ¬ t < 1) (hb : inZ l t = false) (w : World) (hR : AtR w R base u l false) (hbs : base ≤ w.heap.size) :
    Calls Try.prog 14 #[.pointer (some ⟨R, 0, none⟩), .int .i64 t] w fun e w' => e = .returned (.tuple #[.bool (decide (l = [])), .int .i64 (if l = [] then 0 else 14)]) ∧ NowR R base u (l ++ [t]) false w w' := by
  obtain ⟨i3, hi, hz0, hz1, hz2⟩ := info_parts info3
  have A := at_any R base u l false hl t w hR
  rw [idx_out hb] at A
  have HA := hide A
  obtain ⟨c0, co, cf⟩ := hR.cells
  have cf0 := cf 0
  obtain ⟨av, ac, hv⟩ := owns_slice hR.row
  subst hv
  have HR := hide hR
  have HZ := hide (owns_rowZ hR.row)
  have hRl := hR.lt
  obtain ⟨X, hX⟩ : ∃ X : Int, X = (if l = [] then 0 else 14) := ⟨_, rfl⟩
  obtain ⟨B, hB⟩ : ∃ B : Bool, B = decide (l = []) := ⟨_, rfl⟩
  rw [← hX, ← hB]
  have hcase : (l.length = 0 ∧ X = 0 ∧ B = true) ∨ (1 ≤ l.length ∧ X = 14 ∧ B = false) := by
    by_cases hn : l = []
    · left; rw [hX, hB, if_pos hn, hn]; exact ⟨rfl, rfl, rfl⟩
    · right
      have := List.length_pos_iff.2 hn
      rw [hX, hB, if_neg hn]
      exact ⟨by omega, rfl, decide_eq_false hn⟩
  clear hR A cf hb hX hB
  generalize hL : l.length = L at *
  have HL := hide hL
  clear hL
  have fin : Hid (∀ a4 c4 w4, Below w.heap.size w w4 → w4.ownsRow w.heap.size 3 1 (.slice a4 (L + 1) c4) (L + 1) (cZ (l ++ [t])) → NowR R base (.slice av L ac) (l ++ [t]) false w (w4.setCell ⟨R, 0, none⟩ (.slice a4 (L + 1) c4))) := hide fun a4 c4 w4 hb4 ho4 =>
    fin_row HR.out hbs hb4 (by rw [List.length_append, HL.out]; exact ho4)
  have hl0 := lit0 w
  have hb0 := below1 w (.cells #[] 3)
  rcases hcase with ⟨q1, rfl, rfl⟩ | ⟨q1, rfl, rfl⟩
  · subst q1
    go_enter Try.func14, Try.ntmps14
    go_wp2_with fail
    refine HA.out.mono ?_
    rintro e w2 ⟨rfl, hw2⟩
    subst hw2
    go_wp2_with (at_builtin; refine wpList_append_z _ rfl _ _ rfl w2.heap.size _ 0 [] rfl hl0 av 0 ac l rfl HL.out (HZ.out.below hb0) (by omega) (by simp) ?_)
    intro a3 c3 w3 ho3 hg3
    have hb3 : Below w2.heap.size w2 w3 := below_own hb0 hl0 hg3
    have hz3 := hb3.size
    go_wp2_with (at_builtin; refine wpList_append_z _ rfl _ _ rfl w2.heap.size _ 0 l rfl (ho3.alloc _) (some ⟨w3.heap.size, 0, none⟩) 1 1 [t] rfl rfl (one_z (by simp) (by simp)) (by omega) (by simp; omega) ?_)
    intro a4 c4 w4 ho4 hg4
    have hb4 : Below w2.heap.size w2 w4 := below_own (hb3.alloc hz3 _) (ho3.alloc _) hg4
    have HF := hide (fin.out a4 c4 w4 hb4 ho4)
    obtain ⟨d0, _, df⟩ := (HR.out.below hb4).cells
    have df0 := df 0
    have hRl4 : R < w4.heap.size := Nat.lt_of_lt_of_le hRl hb4.size
    clear hg3 ho3 hg4 ho4 hb3 hz3 hb4 df fin HR HZ hl0 hb0 HA c0 cf0 hRl co
    go_wp2
    go_ret2
    refine ⟨rfl, ?_⟩
    exact HF.out
  · have tt : ((L : Int) + 1 == 1) = false := by simp; omega
    go_enter Try.func14, Try.ntmps14
    go_wp2_with fail
    refine HA.out.mono ?_
    rintro e w2 ⟨rfl, hw2⟩
    subst hw2
    go_wp2_with (at_builtin; refine wpList_append_z _ rfl _ _ rfl w2.heap.size _ 0 [] rfl hl0 av L ac l rfl HL.out (HZ.out.below hb0) (by omega) (by simp) ?_)
    intro a3 c3 w3 ho3 hg3
    have hb3 : Below w2.heap.size w2 w3 := below_own hb0 hl0 hg3
    have hz3 := hb3.size
    go_wp2_with (at_builtin; refine wpList_append_z _ rfl _ _ rfl w2.heap.size _ L l rfl (ho3.alloc _) (some ⟨w3.heap.size, 0, none⟩) 1 1 [t] rfl rfl (one_z (by simp) (by simp)) (by omega) (by simp; omega) ?_)
    intro a4 c4 w4 ho4 hg4
    have hb4 : Below w2.heap.size w2 w4 := below_own (hb3.alloc hz3 _) (ho3.alloc _) hg4
    have HF := hide (fin.out a4 c4 w4 hb4 ho4)
    obtain ⟨d0, _, df⟩ := (HR.out.below hb4).cells
    have df0 := df 0
    have hRl4 : R < w4.heap.size := Nat.lt_of_lt_of_le hRl hb4.size
    clear hg3 ho3 hg4 ho4 hb3 hz3 hb4 df fin HR HZ hl0 hb0 HA c0 cf0 hRl co
    go_wp2
    go_ret2
    refine ⟨rfl, ?_⟩
    exact HF.out

set_option maxHeartbeats 1000000 in
theorem refBeg_any (R base : Nat) (u : Value) (l : List Int) (o : Bool) (hl : l.length ≤ 1000) (t : Int) (w : World) (hR : AtR w R base u l o) (hbs : base ≤ w.heap.size) :
    Calls Try.prog 14 #[.pointer (some ⟨R, 0, none⟩), .int .i64 t] w fun e w' => e = .returned (.tuple #[.bool (begB l o t), .int .i64 (begE l o t)]) ∧ NowR R base u (begL l o t) o w w' := by
  by_cases h1 : t < 1
  · obtain ⟨e1, e2, e3⟩ := beg_low (l := l) (o := o) h1
    rw [e1, e2, e3]
    have HR := hide hR
    clear e1 e2 e3 hR
    go_enter Try.func14, Try.ntmps14
    go_wp2
    go_ret2
    exact ⟨rfl, NowR.same HR.out (Below.refl _ _)⟩
  · cases o
    · cases hb : inZ l t
      · obtain ⟨e1, e2, e3⟩ := beg_new (l := l) h1 rfl hb
        rw [e1, e2, e3]
        exact refBeg_new R base u l hl t h1 hb w hR hbs
      · obtain ⟨e1, e2, e3⟩ := beg_in (l := l) h1 rfl hb
        rw [e1, e2, e3]
        obtain ⟨k, _, q2, _⟩ := idx_in hb
        have A := at_any R base u l false hl t w hR
        rw [q2] at A
        have HA := hide A
        obtain ⟨_, co, _⟩ := hR.cells
        have HR := hide hR
        have hk : (0 : Int) ≤ (k : Int) := by omega
        clear hR A hb q2 e1 e2 e3
        go_enter Try.func14, Try.ntmps14
        go_wp2_with fail
        refine HA.out.mono ?_
        rintro e w2 ⟨rfl, hw2⟩
        subst hw2
        go_wp2
        go_ret2
        exact ⟨rfl, NowR.same HR.out (Below.refl _ _)⟩
    · obtain ⟨e1, e2, e3⟩ := beg_over (l := l) h1 (o := true) rfl
      rw [e1, e2, e3]
      obtain ⟨_, co, _⟩ := hR.cells
      have HR := hide hR
      clear e1 e2 e3 hR
      go_enter Try.func14, Try.ntmps14
      go_wp2
      go_ret2
      exact ⟨rfl, NowR.same HR.out (Below.refl _ _)⟩

end Go.Proofs.Ytinipmandmhgnaa
