/-
  What the document's Want and Unlock come to.
-/
import Derived.Test.YtbagkmijnjjmgaaApp
namespace Go.Proofs.Ytbagkmijnjjmgaa
open Go.RowKit

theorem newE_of {l : List Int} {t : Int} (h1 : ¬ t < 1) (hb : inZ l t = false) : lockE l t = (if l = [] then 0 else 14) ∧ lockL l t = l ++ [t] := by
  have h2 : ¬ inZ l t = true := by rw [hb]; simp
  exact ⟨(if_neg h1).trans (if_neg h2), (if_neg h1).trans (if_neg h2)⟩
theorem one_z {W : World} {g : Nat} {t : Int} (hg : g < W.heap.size) (h : W.cell? ⟨g, 0, none⟩ = some (.int .i64 t)) : RowZ W (some ⟨g, 0, none⟩) [t] := fun _ => ⟨g, 0, rfl, hg, fun k hk => by
  obtain rfl : k = 0 := by simp at hk; omega
  exact h⟩

set_option maxHeartbeats 2000000 in
theorem want_new (R base : Nat) (u : Value) (l : List Int) (hl : l.length ≤ 1000) (t : Int) (h1 : ¬ t < 1) (hb : inZ l t = false) (b : Bool) (hw : b = true ∨ l = []) (w : World) (hR : AtR w R base u l) (hbs : base ≤ w.heap.size) :
    Calls Try.prog 12 #[.pointer (some ⟨R, 0, none⟩), .int .i64 t, .bool b] w fun e w' => e = .returned (.int .i64 (if l = [] then 0 else 14)) ∧ NowR R base u (l ++ [t]) w w' := by
  obtain ⟨i3, hi, hz0, hz1, hz2⟩ := info_parts info3
  have A := at_any R base u l hl t w hR
  rw [idx_out hb] at A
  have HA := hide A
  obtain ⟨c0, cf⟩ := hR.cells
  have cf0 := cf 0
  obtain ⟨av, ac, hv⟩ := owns_slice hR.row
  subst hv
  have HR := hide hR
  have HZ := hide (owns_rowZ hR.row)
  have hRl := hR.lt
  obtain ⟨X, hX⟩ : ∃ X : Int, X = (if l = [] then 0 else 14) := ⟨_, rfl⟩
  rw [← hX]
  have hcase : (l.length = 0 ∧ X = 0) ∨ (1 ≤ l.length ∧ X = 14 ∧ b = true) := by
    by_cases hn : l = []
    · left; rw [hX, if_pos hn, hn]; exact ⟨rfl, rfl⟩
    · right
      have := List.length_pos_iff.2 hn
      rw [hX, if_neg hn]
      rcases hw with q | q
      · exact ⟨by omega, rfl, q⟩
      · exact absurd q hn
  clear hR A cf hb hX hw
  generalize hL : l.length = L at *
  have HL := hide hL
  clear hL
  have fin : Hid (∀ a4 c4 w4, Below w.heap.size w w4 → w4.ownsRow w.heap.size 3 1 (.slice a4 (L + 1) c4) (L + 1) (cZ (l ++ [t])) → NowR R base (.slice av L ac) (l ++ [t]) w (w4.setCell ⟨R, 0, none⟩ (.slice a4 (L + 1) c4))) := hide fun a4 c4 w4 hb4 ho4 =>
    fin_row HR.out hbs hb4 (by rw [List.length_append, HL.out]; exact ho4)
  have hl0 := lit0 w
  have hb0 := below1 w (.cells #[] 3)
  rcases hcase with ⟨q1, rfl⟩ | ⟨q1, rfl, rfl⟩
  · subst q1
    go_enter Try.func12, Try.ntmps12
    go_wp2_with fail
    refine HA.out.mono ?_
    rintro e w2 ⟨rfl, hw2⟩
    subst hw2
    go_wp2_with (at_builtin; refine wpList_append_z _ rfl _ _ rfl w2.heap.size _ 0 [] rfl hl0 av 0 ac l rfl HL.out (HZ.out.below hb0) (by omega) (by simp) ?_)
    intro a3 c3 w3 ho3 hg3
    have hb3 : Below w2.heap.size w2 w3 := below_own hb0 hl0 hg3
    have hz3 := hb3.size
    go_wp2_with (at_builtin; refine wpList_append_z _ rfl _ _ rfl w2.heap.size _ 0 l rfl (ho3.alloc _) (some ⟨w3.heap.size, 0, none⟩) 1 1 [t] rfl rfl (one_z (by simp) (by simp)) (by omega) (by simp; omega) ?_)
    intro a4 c4 w4 ho4 hg4
    have hb4 : Below w2.heap.size w2 w4 := below_own (hb3.alloc hz3 _) (ho3.alloc _) hg4
    have HF := hide (fin.out a4 c4 w4 hb4 ho4)
    have hc4 := (HR.out.below hb4).cells
    obtain ⟨d0, df⟩ := hc4
    have df0 := df 0
    have hRl4 : R < w4.heap.size := Nat.lt_of_lt_of_le hRl hb4.size
    clear hg3 ho3 hg4 ho4 hb3 hz3 hb4 df fin HR HZ hl0 hb0 HA c0 cf0 hRl
    go_wp2
    go_ret
    refine ⟨rfl, ?_⟩
    exact HF.out
  · go_enter Try.func12, Try.ntmps12
    go_wp2_with fail
    refine HA.out.mono ?_
    rintro e w2 ⟨rfl, hw2⟩
    subst hw2
    go_wp2_with (at_builtin; refine wpList_append_z _ rfl _ _ rfl w2.heap.size _ 0 [] rfl hl0 av L ac l rfl HL.out (HZ.out.below hb0) (by omega) (by simp) ?_)
    intro a3 c3 w3 ho3 hg3
    have tt : ((L : Int) + 1 == 1) = false := by simp; omega
    have hb3 : Below w2.heap.size w2 w3 := below_own hb0 hl0 hg3
    have hz3 := hb3.size
    go_wp2_with (at_builtin; refine wpList_append_z _ rfl _ _ rfl w2.heap.size _ L l rfl (ho3.alloc _) (some ⟨w3.heap.size, 0, none⟩) 1 1 [t] rfl rfl (one_z (by simp) (by simp)) (by omega) (by simp; omega) ?_)
    intro a4 c4 w4 ho4 hg4
    have hb4 : Below w2.heap.size w2 w4 := below_own (hb3.alloc hz3 _) (ho3.alloc _) hg4
    have HF := hide (fin.out a4 c4 w4 hb4 ho4)
    have hc4 := (HR.out.below hb4).cells
    obtain ⟨d0, df⟩ := hc4
    have df0 := df 0
    have hRl4 : R < w4.heap.size := Nat.lt_of_lt_of_le hRl hb4.size
    clear hg3 ho3 hg4 ho4 hb3 hz3 hb4 df fin HR HZ hl0 hb0 HA c0 cf0 hRl
    go_wp2
    go_ret
    refine ⟨rfl, ?_⟩
    exact HF.out

set_option maxHeartbeats 1000000 in
theorem want_any (R base : Nat) (u : Value) (l : List Int) (hl : l.length ≤ 1000) (t : Int) (b : Bool) (w : World) (hR : AtR w R base u l) (hbs : base ≤ w.heap.size) :
    Calls Try.prog 12 #[.pointer (some ⟨R, 0, none⟩), .int .i64 t, .bool b] w fun e w' => e = .returned (.int .i64 (if b = true then lockE l t else tryE l t)) ∧ NowR R base u (if b = true then lockL l t else tryL l t) w w' := by
  by_cases h1 : t < 1
  · have e1 : (if b = true then lockE l t else tryE l t) = 1 := by split; exact if_pos h1; exact if_pos h1
    have e2 : (if b = true then lockL l t else tryL l t) = l := by split; exact if_pos h1; exact if_pos h1
    rw [e1, e2]
    have HR := hide hR
    clear e1 e2 hR
    go_enter Try.func12, Try.ntmps12
    go_wp2
    go_ret
    exact ⟨rfl, NowR.same HR.out (Below.refl _ _)⟩
  · cases hb : inZ l t
    · by_cases hw : b = true ∨ l = []
      · have W := want_new R base u l hl t h1 hb b hw w hR hbs
        have e1 : (if b = true then lockE l t else tryE l t) = (if l = [] then 0 else 14) := by
          by_cases q : b = true
          · rw [if_pos q]; exact (newE_of h1 hb).1
          · rw [if_neg q]
            rcases hw with q2 | q2
            · exact absurd q2 q
            · subst q2; unfold tryE; rw [if_neg h1, hb]; rfl
        have e2 : (if b = true then lockL l t else tryL l t) = l ++ [t] := by
          by_cases q : b = true
          · rw [if_pos q]; exact (newE_of h1 hb).2
          · rw [if_neg q]
            rcases hw with q2 | q2
            · exact absurd q2 q
            · subst q2; unfold tryL; rw [if_neg h1, hb]; rfl
        rw [e1, e2]
        exact W
      · have q : b = false := by cases b; rfl; exact absurd (Or.inl rfl) hw
        have hn : l ≠ [] := fun e => hw (Or.inr e)
        subst q
        have e1 : tryE l t = 12 := by unfold tryE; rw [if_neg h1, hb, if_neg (by simp), if_neg hn]
        have e2 : tryL l t = l := by unfold tryL; rw [if_neg h1, hb, if_neg (by simp), if_neg hn]
        show Calls Try.prog 12 _ w fun e w' => e = .returned (.int .i64 (tryE l t)) ∧ NowR R base u (tryL l t) w w'
        rw [e1, e2]
        have A := at_any R base u l hl t w hR
        rw [idx_out hb] at A
        have HA := hide A
        obtain ⟨c0, _⟩ := hR.cells
        obtain ⟨av, ac, rfl⟩ := owns_slice hR.row
        have HR := hide hR
        have hp : (0 : Int) < (l.length : Int) := by have := List.length_pos_iff.2 hn; omega
        clear hR A hb hn hw e1 e2
        generalize l.length = L at *
        go_enter Try.func12, Try.ntmps12
        go_wp2_with fail
        refine HA.out.mono ?_
        rintro e w2 ⟨rfl, hw2⟩
        subst hw2
        go_wp2
        go_ret
        exact ⟨rfl, NowR.same HR.out (Below.refl _ _)⟩
    · have e1 : (if b = true then lockE l t else tryE l t) = 11 := by split; exact (if_neg h1).trans (if_pos hb); exact (if_neg h1).trans (if_pos hb)
      have e2 : (if b = true then lockL l t else tryL l t) = l := by split; exact (if_neg h1).trans (if_pos hb); exact (if_neg h1).trans (if_pos hb)
      rw [e1, e2]
      obtain ⟨k, _, q2, _⟩ := idx_in hb
      have A := at_any R base u l hl t w hR
      rw [q2] at A
      have HA := hide A
      have HR := hide hR
      have hk : (0 : Int) ≤ (k : Int) := by omega
      clear hR A hb q2 e1 e2
      go_enter Try.func12, Try.ntmps12
      go_wp2_with fail
      refine HA.out.mono ?_
      rintro e w2 ⟨rfl, hw2⟩
      subst hw2
      go_wp2
      go_ret
      exact ⟨rfl, NowR.same HR.out (Below.refl _ _)⟩

end Go.Proofs.Ytbagkmijnjjmgaa
