/-
  What the program's Begin comes to.
-/
import Derived.Test.YtinipmandmhgnaaFun
import Derived.Test.YtinipmandmhgnaaRefDn
namespace Go.Proofs.Ytinipmandmhgnaa
open Go.RowKit

theorem snoc_tail {l : List Int} (h : l ≠ []) (t : Int) : (l ++ [t]).tail = l.tail ++ [t] ∧ hold (l ++ [t]) = hold l := by
  cases l with
  | nil => exact absurd rfl h
  | cons x r => exact ⟨rfl, rfl⟩
/-- The row behind an append of one that is put back into the box. -/
theorem app_row {w w3 : World} {M base : Nat} {v v' : Value} {l : List Int} {ov : Bool} {t : Int} {o : Obj} (h : AtM w M base v l ov) (hn : l ≠ []) (hown : w3.ownsRow base 3 1 v' (l.tail.length + 1) (cZ l.tail ++ [.int .i64 t])) (hg : (w.alloc o).grownBy w3 v.ownBlock) (hat : v'.ownBlock = v.ownBlock ∨ v'.ownBlock = some (w.alloc o).heap.size) :
    NowM M base v (l ++ [t]) ov w (w3.setCell ⟨M, 1, none⟩ v') := by
  have hA : Below w.heap.size w (w.alloc o) := (Below.refl _ _).alloc (Nat.le_refl _) _
  have h1 := h.below hA
  have hz := hg.size
  have hs := snoc_tail hn t
  have box3 : w3.heap[M]? = some (.cells #[.int .i64 (hold l), v, .bool ov] 48 (0, 0)) := (hg.block _ h1.lt (fun e => h1.far e.symm)).trans h1.box
  have ho : w3.ownsRow base 3 1 v' (l ++ [t]).tail.length (cZ (l ++ [t]).tail) := by rw [hs.1, cZ_snoc, List.length_append]; exact hown
  have m3 : Mov (Mine M v) w w3 := ⟨hg.os.trans hA.os, hg.tape.trans hA.tape, hg.output.trans hA.output, Nat.le_trans hA.size hz, fun k hk hS =>
    (hg.block k (Nat.lt_of_lt_of_le hk hA.size) (fun e => hS (Or.inr e.symm))).trans (hA.block k hk)⟩
  refine ⟨v', ⟨by rw [hs.2]; exact Lib.heap_setCell_same box3 v', owns_far ho fun k hk => Below.heap_setCell _ _ _ _ (fun e => row_box ho box3 (by decide) (by rw [hk]; exact congrArg some e))⟩, m3.set (p := ⟨M, 1, none⟩) (Or.inl rfl) v', fun k hk => ?_⟩
  rcases hat with q | q
  · exact Or.inr (by rw [← q]; exact hk)
  · rw [q] at hk
    have := Option.some.inj hk
    have := hA.size
    exact Or.inl (by omega)

set_option maxHeartbeats 1000000 in
theorem beg_any (M base : Nat) (v : Value) (l : List Int) (o : Bool) (hO : Okz l) (hl : l.length ≤ 1000) (t : Int) (w : World) (hM : AtM w M base v l o) (hbs : base ≤ w.heap.size) :
    Calls Try.prog 13 #[.pointer (some ⟨M, 0, none⟩), .int .i64 t] w fun e w' => e = .returned (.tuple #[.bool (begB l o t), .int .i64 (begE l o t)]) ∧ NowM M base v (begL l o t) o w w' := by
  have hl' : l.tail.length ≤ 1000 := by have := List.length_tail (l := l); omega
  have F := contains_row hM.row hl' t
  obtain ⟨c0, c1, c2, cf⟩ := hM.cells
  have cf0 := cf 0
  have cf1 := cf 1
  have HM := hide hM
  clear hM cf
  by_cases h1 : t < 1
  · obtain ⟨e1, e2, e3⟩ := beg_low (l := l) (o := o) h1
    rw [e1, e2, e3]
    clear F e1 e2 e3
    go_enter Try.func13, Try.ntmps13
    go_wp2
    go_ret2
    exact ⟨rfl, NowM.same HM.out (Below.refl _ _)⟩
  · cases o
    · cases hb : inZ l t
      · obtain ⟨e1, e2, e3⟩ := beg_new (l := l) h1 rfl hb
        rw [e1, e2, e3]
        have hh := not_hold hb h1
        rw [not_tail hb] at F
        have HF := hide F
        have hh' : (t == hold l) = false := by simpa using hh
        by_cases hn : l = []
        · subst hn
          rw [hold_nil] at c0 hh'
          clear F e1 e2 e3 hb hh
          show Calls Try.prog 13 _ w fun e w' => e = .returned (.tuple #[.bool true, .int .i64 0]) ∧ NowM M base v [t] false w w'
          go_enter Try.func13, Try.ntmps13
          go_wp2_with fail
          refine HF.out.mono ?_
          rintro e w2 ⟨rfl, hw2⟩
          subst hw2
          go_wp2
          go_ret2
          exact ⟨rfl, v, HM.out.setHold t rfl rfl, (Mov.refl _ _).set (p := ⟨M, 0, none⟩) (Or.inl rfl) _, fun _ hk => Or.inr hk⟩
        · have hp := hold_pos hO hn
          rw [decide_eq_false hn, if_neg hn]
          have hh2 : (hold l == 0) = false := by have : hold l ≠ 0 := by omega
                                                 simpa using this
          have HNE := hide hn
          obtain ⟨av, ac, hv⟩ := owns_slice HM.out.row
          subst hv
          have hR := HM.out.row
          have hMl := HM.out.lt
          obtain ⟨i3, hi, hz0, hz1, hz2⟩ := info_parts info3
          clear F e1 e2 e3 hb hh hn hO
          generalize hold l = H at c0 hh' hh2 hp
          generalize hd : l.tail.length = n at *
          have HD := hide hd
          clear hd
          go_enter Try.func13, Try.ntmps13
          go_wp2_with fail
          refine HF.out.mono ?_
          rintro e w2 ⟨rfl, hw2⟩
          subst hw2
          go_wp2_with (at_builtin; refine wpList_append_own_at _ rfl _ _ 26 rfl base 3 i3 (.int .i64 0) 1 8 Try.underlying26 hi hz0 hz1 hz2 rfl (by decide) _ _ _ rfl (hR.alloc _) ⟨w2.heap.size, 0, none⟩ 1 1 [.int .i64 t] rfl rfl (newsI (by simp [go_sem])) (onesI _) (by unfold maxLen; omega) (by omega) (by simp; omega) ?_)
          intro v' w3 hown hgrow _ hat
          obtain ⟨av', ac', rfl⟩ := owns_slice hown
          have HA := hide (app_row (v' := .slice av' (n + 1) ac') HM.out HNE.out (by rw [HD.out]; exact hown) hgrow (by simpa using hat))
          have hA : Below w2.heap.size w2 (w2.alloc (.cells #[.int .i64 t] 3)) := (Below.refl _ _).alloc (Nat.le_refl _) _
          have h1 := HM.out.below hA
          have hbox := (hgrow.block _ h1.lt (fun e => h1.far e.symm)).trans h1.box
          have hfr : w3.frozen? ⟨M, 1, none⟩ = false := Lib.frozen_of_heap hbox 1
          have hce : w3.cell? ⟨M, 1, none⟩ = some (.slice av n ac) := Lib.cell_of_heap hbox 1
          clear hown hgrow hat hR c1 cf1 hA h1 hbox
          go_wp2
          go_ret2
          refine ⟨rfl, ?_⟩
          exact HA.out
      · obtain ⟨e1, e2, e3⟩ := beg_in (l := l) h1 rfl hb
        rw [e1, e2, e3]
        by_cases hh : t = hold l
        · have hh' : (t == hold l) = true := by simpa using hh
          clear F e1 e2 e3 hb hh
          generalize hold l = H at c0 hh'
          go_enter Try.func13, Try.ntmps13
          go_wp2
          go_ret2
          exact ⟨rfl, NowM.same HM.out (Below.refl _ _)⟩
        · have hh' : (t == hold l) = false := by simpa using hh
          have ht : inZ l.tail t = true := by
            rcases (in_split l t).1 hb with q | q
            · exact absurd q.2.symm hh
            · exact q
          rw [ht] at F
          have HF := hide F
          clear F e1 e2 e3 hb hh ht
          generalize hold l = H at c0 hh'
          go_enter Try.func13, Try.ntmps13
          go_wp2_with fail
          refine HF.out.mono ?_
          rintro e w2 ⟨rfl, hw2⟩
          subst hw2
          go_wp2
          go_ret2
          exact ⟨rfl, NowM.same HM.out (Below.refl _ _)⟩
    · obtain ⟨e1, e2, e3⟩ := beg_over (l := l) h1 (o := true) rfl
      rw [e1, e2, e3]
      clear F e1 e2 e3
      go_enter Try.func13, Try.ntmps13
      go_wp2
      go_ret2
      exact ⟨rfl, NowM.same HM.out (Below.refl _ _)⟩

end Go.Proofs.Ytinipmandmhgnaa
