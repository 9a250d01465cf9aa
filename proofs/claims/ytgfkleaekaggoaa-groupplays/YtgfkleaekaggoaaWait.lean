/-
  What the program's Wait comes to.
-/
import Derived.Test.YtgfkleaekaggoaaFun
namespace Go.Proofs.Ytgfkleaekaggoaa
open Go.RowKit

/-- The row behind an append of one that is put back into the box. -/
theorem app_row {w w3 : World} {M base : Nat} {v v' : Value} {c : Int} {l : List Int} {t : Int} {o : Obj} (h : AtM w M base v c l) (hown : w3.ownsRow base 3 1 v' (l.length + 1) (cZ l ++ [.int .i64 t])) (hg : (w.alloc o).grownBy w3 v.ownBlock) (hat : v'.ownBlock = v.ownBlock ∨ v'.ownBlock = some (w.alloc o).heap.size) :
    NowM M base v c (l ++ [t]) w (w3.setCell ⟨M, 1, none⟩ v') := by
  have hA : Below w.heap.size w (w.alloc o) := (Below.refl _ _).alloc (Nat.le_refl _) _
  have h1 := h.below hA
  have hz := hg.size
  have box3 : w3.heap[M]? = some (.cells #[.int .i64 c, v] 47 (0, 0)) := (hg.block _ h1.lt (fun e => h1.far e.symm)).trans h1.box
  have ho : w3.ownsRow base 3 1 v' (l ++ [t]).length (cZ (l ++ [t])) := by rw [cZ_snoc, List.length_append]; exact hown
  have m3 : Mov (Mine M v) w w3 := ⟨hg.os.trans hA.os, hg.tape.trans hA.tape, hg.output.trans hA.output, Nat.le_trans hA.size hz, fun k hk hS =>
    (hg.block k (Nat.lt_of_lt_of_le hk hA.size) (fun e => hS (Or.inr e.symm))).trans (hA.block k hk)⟩
  refine ⟨v', ⟨Lib.heap_setCell_same box3 v', owns_far ho fun k hk => Below.heap_setCell _ _ _ _ (fun e => row_box ho box3 (by decide) (by rw [hk]; exact congrArg some e))⟩, m3.set (p := ⟨M, 1, none⟩) (Or.inl rfl) v', fun k hk => ?_⟩
  rcases hat with q | q
  · exact Or.inr (by rw [← q]; exact hk)
  · rw [q] at hk
    have := Option.some.inj hk
    have := hA.size
    exact Or.inl (by omega)

set_option maxHeartbeats 1000000 in
theorem wait_any (M base : Nat) (v : Value) (c : Int) (l : List Int) (hl : l.length ≤ 1000) (t : Int) (w : World) (hM : AtM w M base v c l) (hbs : base ≤ w.heap.size) :
    Calls Try.prog 11 #[.pointer (some ⟨M, 0, none⟩), .int .i64 t] w fun e w' => e = .returned (.int .i64 (waitE c l t)) ∧ NowM M base v c (waitL c l t) w w' := by
  have F := contains_row hM.row hl t
  obtain ⟨c0, c1, cf⟩ := hM.cells
  have cf0 := cf 0
  have cf1 := cf 1
  have HM := hide hM
  clear hM cf
  by_cases h1 : t < 1
  · obtain ⟨e1, e2⟩ := wait_low (c := c) (l := l) h1
    rw [e1, e2]
    clear F e1 e2
    go_enter Try.func11, Try.ntmps11
    go_wp2
    go_ret
    exact ⟨rfl, NowM.same HM.out (Below.refl _ _)⟩
  · cases hb : inZ l t
    · rw [hb] at F
      have HF := hide F
      by_cases hc : c = 0
      · obtain ⟨e1, e2⟩ := wait_zero h1 hb hc
        rw [e1, e2]
        subst hc
        clear F e1 e2 hb
        go_enter Try.func11, Try.ntmps11
        go_wp2_with fail
        refine HF.out.mono ?_
        rintro e w2 ⟨rfl, hw2⟩
        subst hw2
        go_wp2
        go_ret
        exact ⟨rfl, NowM.same HM.out (Below.refl _ _)⟩
      · obtain ⟨e1, e2⟩ := wait_new h1 hb hc
        rw [e1, e2]
        obtain ⟨av, ac, hv⟩ := owns_slice HM.out.row
        subst hv
        have hR := HM.out.row
        have hMl := HM.out.lt
        obtain ⟨i3, hi, hz0, hz1, hz2⟩ := info_parts info3
        clear F e1 e2 hb
        generalize hd : l.length = n at *
        have HD := hide hd
        clear hd
        go_enter Try.func11, Try.ntmps11
        go_wp2_with fail
        refine HF.out.mono ?_
        rintro e w2 ⟨rfl, hw2⟩
        subst hw2
        go_wp2_with (at_builtin; refine wpList_append_own_at _ rfl _ _ 26 rfl base 3 i3 (.int .i64 0) 1 8 Try.underlying26 hi hz0 hz1 hz2 rfl (by decide) _ _ _ rfl (hR.alloc _) ⟨w2.heap.size, 0, none⟩ 1 1 [.int .i64 t] rfl rfl (newsI (by simp [go_sem])) (onesI _) (by unfold maxLen; omega) (by omega) (by simp; omega) ?_)
        intro v' w3 hown hgrow _ hat
        obtain ⟨av', ac', rfl⟩ := owns_slice hown
        have HA := hide (app_row (v' := .slice av' (n + 1) ac') HM.out (by rw [HD.out]; exact hown) hgrow (by simpa using hat))
        have hA : Below w2.heap.size w2 (w2.alloc (.cells #[.int .i64 t] 3)) := (Below.refl _ _).alloc (Nat.le_refl _) _
        have h1 := HM.out.below hA
        have hbox := (hgrow.block _ h1.lt (fun e => h1.far e.symm)).trans h1.box
        have hfr : w3.frozen? ⟨M, 1, none⟩ = false := Lib.frozen_of_heap hbox 1
        have hce : w3.cell? ⟨M, 1, none⟩ = some (.slice av n ac) := Lib.cell_of_heap hbox 1
        clear hown hgrow hat hR c1 cf1 hA h1 hbox
        go_wp2
        go_ret
        refine ⟨rfl, ?_⟩
        exact HA.out
    · obtain ⟨e1, e2⟩ := wait_in (c := c) h1 hb
      rw [e1, e2]
      rw [hb] at F
      have HF := hide F
      clear F e1 e2 hb
      go_enter Try.func11, Try.ntmps11
      go_wp2_with fail
      refine HF.out.mono ?_
      rintro e w2 ⟨rfl, hw2⟩
      subst hw2
      go_wp2
      go_ret
      exact ⟨rfl, NowM.same HM.out (Below.refl _ _)⟩

end Go.Proofs.Ytgfkleaekaggoaa
