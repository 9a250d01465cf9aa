/-
  What the document's Unlock comes to.
-/
import Derived.Test.YtbagkmijnjjmgaaRefSt
namespace Go.Proofs.Ytbagkmijnjjmgaa
open Go.RowKit

theorem idx_has {l : List Int} {t : Int} (h : has l t) : idxZ l t = 0 := idx_at (k := 0) (List.length_pos_iff.2 h.2.1) h.2.2 (fun _ hm => absurd hm (Nat.not_lt_zero _))
theorem idx_not {l : List Int} {t : Int} (h : ¬ has l t) (h1 : ¬ t < 1) : (idxZ l t != 0) = true := by
  cases hb : inZ l t
  · rw [idx_out hb]; rfl
  · obtain ⟨k, q1, q2, q3⟩ := idx_in hb
    have hk : k ≠ 0 := by
      rintro rfl
      exact h ⟨by omega, List.length_pos_iff.1 (by omega), q3⟩
    rw [q2]
    simp
    omega

set_option maxHeartbeats 2000000 in
theorem refUnlock_any (R base : Nat) (u : Value) (l : List Int) (hl : l.length ≤ 1000) (t : Int) (w : World) (hR : AtR w R base u l) (hbs : base ≤ w.heap.size) :
    Calls Try.prog 14 #[.pointer (some ⟨R, 0, none⟩), .int .i64 t] w fun e w' => e = .returned (.tuple #[.int .i64 (unN l t), .int .i64 (unE l t)]) ∧ NowR R base u (unL l t) w w' := by
  by_cases h1 : t < 1
  · have hh : ¬ has l t := fun h => by have := h.1; omega
    rw [(un_no hh).1, (un_no hh).2, show unE l t = 1 from if_pos h1]
    have HR := hide hR
    clear hR hh
    go_enter Try.func14, Try.ntmps14
    go_wp2
    go_ret2
    exact ⟨rfl, NowR.same HR.out (Below.refl _ _)⟩
  · have A := at_any R base u l hl t w hR
    by_cases hh : has l t
    · have e1 : unE l t = 0 := by unfold unE; rw [if_neg h1, if_pos hh]
      have e2 : unL l t = l.tail := if_pos hh
      have e3 : unN l t = hold l.tail := if_pos hh
      rw [e1, e2, e3]
      rw [idx_has hh] at A
      have HA := hide A
      have hn := hh.2.1
      clear e1 e2 e3 A hh
      obtain ⟨x, r, rfl⟩ : ∃ x r, l = x :: r := by
        cases l with
        | nil => exact absurd rfl hn
        | cons x r => exact ⟨x, r, rfl⟩
      obtain ⟨g, ac, rfl, _, hgl, hcell, hc⟩ := row_open hR.row (by simp)
      have hmx := (row_cap hR.row).2
      unfold maxLen at hmx
      obtain ⟨c0, cf⟩ := hR.cells
      have cf0 := cf 0
      have HR := hide hR
      have hRl := hR.lt
      obtain ⟨m, hm⟩ : ∃ m, r.length = m := ⟨_, rfl⟩
      have hlen : (x :: r).length = m + 1 := by rw [List.length_cons, hm]
      have HM := hide hm
      have HZ : Hid (RowZ w (some ⟨g, 1, none⟩) r) := fun _ => ⟨g, 1, rfl, hgl, fun k hk => by
        have := (hcell (k + 1) (by simp; omega)).1
        rwa [gz_succ, Nat.add_comm] at this⟩
      show Calls Try.prog 14 _ w fun e w' => e = .returned (.tuple #[.int .i64 (hold r), .int .i64 0]) ∧ NowR R base _ r w w'
      clear hcell hR cf hn
      rw [hlen] at c0 hc hl HR ⊢
      clear hlen hm
      have hm1 : m ≤ 999 := by omega
      have i1 : (1 : Int) ≤ (m : Int) + 1 := by omega
      have hl0 := lit0 w
      have hb0 := below1 w (.cells #[] 3)
      have fin : Hid (∀ a4 c4 w4, Below w.heap.size w w4 → w4.ownsRow w.heap.size 3 1 (.slice a4 m c4) m (cZ r) → AtR (w4.setCell ⟨R, 0, none⟩ (.slice a4 m c4)) R base (.slice a4 m c4) r ∧ NowR R base (.slice (some ⟨g, 0, none⟩) (m + 1) ac) r w (w4.setCell ⟨R, 0, none⟩ (.slice a4 m c4))) := hide fun a4 c4 w4 hb4 ho4 =>
        ⟨(HR.out.below hb4).setRow (owns_base (by rw [HM.out]; exact ho4) hbs), fin_row HR.out hbs hb4 (by rw [HM.out]; exact ho4)⟩
      by_cases hac : ac = 1
      · have hm0 : m = 0 := by omega
        subst hac
        subst hm0
        have hz0 : Hid (RowZ w (some ⟨g, 0, none⟩) r) := fun hn => absurd (List.length_eq_zero_iff.1 HM.out) hn
        go_enter Try.func14, Try.ntmps14
        go_wp2_with fail
        refine HA.out.mono ?_
        rintro e w2 ⟨rfl, hw2⟩
        subst hw2
        go_wp2_with (at_builtin; refine wpList_append_z _ rfl _ _ rfl w2.heap.size _ 0 [] rfl hl0 (some ⟨g, 0, none⟩) 0 0 r rfl HM.out (hz0.out.below hb0) (by omega) (by simp) ?_)
        intro a4 c4 w4 ho4 hg4
        have hb4 : Below w2.heap.size w2 w4 := below_own hb0 hl0 hg4
        have HF := hide (fin.out a4 c4 w4 hb4 (by simpa using ho4))
        obtain ⟨d0, df⟩ := (HR.out.below hb4).cells
        have df0 := df 0
        have hRl4 : R < w4.heap.size := Nat.lt_of_lt_of_le hRl hb4.size
        have HH := hide (refHolder_any R base _ r _ HF.out.1)
        clear ho4 hg4 hb4 df fin HR HZ hl0 hb0 HA c0 cf0 hRl hz0
        go_wp2_with fail
        refine HH.out.mono ?_
        rintro e w5 ⟨rfl, hw5⟩
        have HF5 := hide (hw5.symm ▸ HF.out.2)
        clear HF hw5 HH
        go_wp2
        go_ret2
        refine ⟨rfl, ?_⟩
        exact HF5.out
      · go_enter Try.func14, Try.ntmps14
        go_wp2_with fail
        refine HA.out.mono ?_
        rintro e w2 ⟨rfl, hw2⟩
        subst hw2
        go_wp2_with (at_builtin; refine wpList_append_z _ rfl _ _ rfl w2.heap.size _ 0 [] rfl hl0 (some ⟨g, 1, none⟩) m (ac - 1) r rfl HM.out (HZ.out.below hb0) (by omega) (by simp) ?_)
        intro a4 c4 w4 ho4 hg4
        have hb4 : Below w2.heap.size w2 w4 := below_own hb0 hl0 hg4
        have HF := hide (fin.out a4 c4 w4 hb4 (by simpa using ho4))
        obtain ⟨d0, df⟩ := (HR.out.below hb4).cells
        have df0 := df 0
        have hRl4 : R < w4.heap.size := Nat.lt_of_lt_of_le hRl hb4.size
        have HH := hide (refHolder_any R base _ r _ HF.out.1)
        clear ho4 hg4 hb4 df fin HR HZ hl0 hb0 HA c0 cf0 hRl
        go_wp2_with fail
        refine HH.out.mono ?_
        rintro e w5 ⟨rfl, hw5⟩
        have HF5 := hide (hw5.symm ▸ HF.out.2)
        clear HF hw5 HH
        go_wp2
        go_ret2
        refine ⟨rfl, ?_⟩
        exact HF5.out
    · have e1 : unE l t = 11 := by unfold unE; rw [if_neg h1, if_neg hh]
      rw [(un_no hh).1, (un_no hh).2, e1]
      have hx := idx_not hh h1
      have HA := hide A
      have HR := hide hR
      clear hR A hh e1
      generalize idxZ l t = X at *
      go_enter Try.func14, Try.ntmps14
      go_wp2_with fail
      refine HA.out.mono ?_
      rintro e w2 ⟨rfl, hw2⟩
      subst hw2
      go_wp2
      go_ret2
      exact ⟨rfl, NowR.same HR.out (Below.refl _ _)⟩

end Go.Proofs.Ytbagkmijnjjmgaa
