/-
  What the program's Lock and Unlock come to.
-/
import Derived.Test.YtbagkmijnjjmgaaFun
namespace Go.Proofs.Ytbagkmijnjjmgaa
open Go.RowKit

theorem snoc_tail {l : List Int} (h : l ≠ []) (t : Int) : (l ++ [t]).tail = l.tail ++ [t] ∧ hold (l ++ [t]) = hold l := by
  cases l with
  | nil => exact absurd rfl h
  | cons x r => exact ⟨rfl, rfl⟩
/-- The row behind an append of one that is put back into the box. -/
theorem app_row {w w3 : World} {M base : Nat} {v v' : Value} {l : List Int} {t : Int} {o : Obj} (h : AtM w M base v l) (hn : l ≠ []) (hown : w3.ownsRow base 3 1 v' (l.tail.length + 1) (cZ l.tail ++ [.int .i64 t])) (hg : (w.alloc o).grownBy w3 v.ownBlock) (hat : v'.ownBlock = v.ownBlock ∨ v'.ownBlock = some (w.alloc o).heap.size) :
    NowM M base v (l ++ [t]) w (w3.setCell ⟨M, 1, none⟩ v') := by
  have hA : Below w.heap.size w (w.alloc o) := (Below.refl _ _).alloc (Nat.le_refl _) _
  have h1 := h.below hA
  have hz := hg.size
  have hs := snoc_tail hn t
  have box3 : w3.heap[M]? = some (.cells #[.int .i64 (hold l), v] 49 (0, 0)) := (hg.block _ h1.lt (fun e => h1.far e.symm)).trans h1.box
  have ho : w3.ownsRow base 3 1 v' (l ++ [t]).tail.length (cZ (l ++ [t]).tail) := by rw [hs.1, cZ_snoc, List.length_append]; exact hown
  have m3 : Mov (Mine M v) w w3 := ⟨hg.os.trans hA.os, hg.tape.trans hA.tape, hg.output.trans hA.output, Nat.le_trans hA.size hz, fun k hk hS =>
    (hg.block k (Nat.lt_of_lt_of_le hk hA.size) (fun e => hS (Or.inr e.symm))).trans (hA.block k hk)⟩
  refine ⟨v', ⟨by rw [hs.2]; exact Lib.heap_setCell_same box3 v', owns_far ho fun k hk => Below.heap_setCell _ _ _ _ (fun e => row_box ho box3 (by decide) (by rw [hk]; exact congrArg some e))⟩, m3.set (p := ⟨M, 1, none⟩) (Or.inl rfl) v', fun k hk => ?_⟩
  rcases hat with q | q
  · exact Or.inr (by rw [← q]; exact hk)
  · rw [q] at hk
    have := Option.some.inj hk
    have := hA.size
    exact Or.inl (by omega)

set_option maxHeartbeats 1000000 in
theorem lock_any (M base : Nat) (v : Value) (l : List Int) (hO : Okz l) (hl : l.length ≤ 1000) (t : Int) (w : World) (hM : AtM w M base v l) (hbs : base ≤ w.heap.size) :
    Calls Try.prog 15 #[.pointer (some ⟨M, 0, none⟩), .int .i64 t] w fun e w' => e = .returned (.int .i64 (lockE l t)) ∧ NowM M base v (lockL l t) w w' := by
  obtain ⟨i3, hi, hz0, hz1, hz2⟩ := info_parts info3
  have T := try_any M base v l hO hl t w hM
  have hl' : l.tail.length ≤ 1000 := by have := List.length_tail (l := l); omega
  clear hM
  have same : ∀ x : Int, x ≠ 12 → tryE l t = x → Hid (tryL l t = lockL l t) → Hid (lockE l t = x) →
      Calls Try.prog 15 #[.pointer (some ⟨M, 0, none⟩), .int .i64 t] w fun e w' => e = .returned (.int .i64 (lockE l t)) ∧ NowM M base v (lockL l t) w w' := by
    intro x hx e1 e2 e3
    rw [e1, e2.out] at T
    rw [e3.out]
    have hx' : (x != 12) = true := by simpa using hx
    have HT := hide T
    clear T e1 e2 e3 hx
    go_enter Try.func15, Try.ntmps15
    go_wp2_with fail
    refine HT.out.mono ?_
    rintro e w2 ⟨rfl, hN⟩
    have HN := hide hN
    clear hN
    go_wp2
    go_ret
    refine ⟨rfl, ?_⟩
    exact HN.out
  by_cases h1 : t < 1
  · exact same 1 (by omega) (if_pos h1) ((if_pos h1).trans (if_pos h1).symm) (if_pos h1)
  · cases hb : inZ l t
    · by_cases hn : l = []
      · subst hn
        exact same 0 (by omega) (by unfold tryE; rw [if_neg h1, hb]; rfl) (by show tryL [] t = lockL [] t; unfold tryL lockL; rw [if_neg h1, if_neg h1, hb]; rfl) (by show lockE [] t = 0; unfold lockE; rw [if_neg h1, hb]; rfl)
      · have e1 : tryE l t = 12 := by unfold tryE; rw [if_neg h1, hb, if_neg (by simp), if_neg hn]
        have e2 : tryL l t = l := by unfold tryL; rw [if_neg h1, hb, if_neg (by simp), if_neg hn]
        have e3 : lockE l t = 14 := by unfold lockE; rw [if_neg h1, hb, if_neg (by simp), if_neg hn]
        have e4 : lockL l t = l ++ [t] := by unfold lockL; rw [if_neg h1, hb, if_neg (by simp)]
        rw [e1, e2] at T
        rw [e3, e4]
        have HT := hide T
        have HNE := hide hn
        clear T e1 e2 e3 e4 hb h1 hn same hO
        go_enter Try.func15, Try.ntmps15
        go_wp2_with fail
        refine HT.out.mono ?_
        rintro e w2 ⟨rfl, hN⟩
        obtain ⟨v1, hM1, hV1, hv1⟩ := hN
        have HM1 := hide hM1
        have HV1 := hide hV1
        have HW1 := hide hv1
        obtain ⟨_, c1, cf⟩ := hM1.cells
        have cf1 := cf 1
        obtain ⟨av, ac, hv⟩ := owns_slice hM1.row
        subst hv
        have hbs2 : base ≤ w2.heap.size := Nat.le_trans hbs hV1.size
        have hR := hM1.row
        have hMl := hM1.lt
        clear hM1 hV1 hv1 cf
        generalize hd : l.tail.length = n at *
        have HD := hide hd
        clear hd
        go_wp2_with (at_builtin; refine wpList_append_own_at _ rfl _ _ 26 rfl base 3 i3 (.int .i64 0) 1 8 Try.underlying26 hi hz0 hz1 hz2 rfl (by decide) _ _ _ rfl (hR.alloc _) ⟨w2.heap.size, 0, none⟩ 1 1 [.int .i64 t] rfl rfl (newsI (by simp [go_sem])) (onesI _) (by unfold maxLen; omega) (by omega) (by simp; omega) ?_)
        intro v' w3 hown hgrow _ hat
        obtain ⟨av', ac', rfl⟩ := owns_slice hown
        have HA := hide (app_row (v' := .slice av' (n + 1) ac') HM1.out HNE.out (by rw [HD.out]; exact hown) hgrow (by simpa using hat))
        have hA : Below w2.heap.size w2 (w2.alloc (.cells #[.int .i64 t] 3)) := (Below.refl _ _).alloc (Nat.le_refl _) _
        have h1 := HM1.out.below hA
        have hbox : w3.heap[M]? = some (.cells #[.int .i64 (hold l), .slice av n ac] 49 (0, 0)) := (hgrow.block _ h1.lt (fun e => h1.far e.symm)).trans h1.box
        have hfr : w3.frozen? ⟨M, 1, none⟩ = false := Lib.frozen_of_heap hbox 1
        have hce : w3.cell? ⟨M, 1, none⟩ = some (.slice av n ac) := Lib.cell_of_heap hbox 1
        clear hown hgrow hat hR c1 cf1 hA h1 hbox
        go_wp2
        go_ret
        refine ⟨rfl, ?_⟩
        exact NowM.next HV1.out HW1.out HA.out
    · exact same 11 (by omega) (by unfold tryE; rw [if_neg h1, hb, if_pos rfl]) (by show tryL l t = lockL l t; unfold tryL lockL; rw [if_neg h1, if_neg h1, hb, if_pos rfl, if_pos rfl]) (by show lockE l t = 11; unfold lockE; rw [if_neg h1, hb, if_pos rfl])

theorem un_no {l : List Int} {t : Int} (h : ¬ has l t) : unL l t = l ∧ unN l t = 0 := ⟨if_neg h, if_neg h⟩

set_option maxHeartbeats 1000000 in
theorem unlock_any (M base : Nat) (v : Value) (l : List Int) (hO : Okz l) (hl : l.length ≤ 1000) (t : Int) (w : World) (hM : AtM w M base v l) :
    Calls Try.prog 13 #[.pointer (some ⟨M, 0, none⟩), .int .i64 t] w fun e w' => e = .returned (.tuple #[.int .i64 (unN l t), .int .i64 (unE l t)]) ∧ NowM M base v (unL l t) w w' := by
  obtain ⟨c0, c1, cf⟩ := hM.cells
  have cf0 := cf 0
  have HM := hide hM
  clear cf
  by_cases h1 : t < 1
  · have hh : ¬ has l t := fun h => by have := h.1; omega
    rw [(un_no hh).1, (un_no hh).2, show unE l t = 1 from if_pos h1]
    clear hM hh
    go_enter Try.func13, Try.ntmps13
    go_wp2
    go_ret2
    exact ⟨rfl, NowM.same HM.out (Below.refl _ _)⟩
  · by_cases hh : has l t
    · have e1 : unE l t = 0 := by unfold unE; rw [if_neg h1, if_pos hh]
      have e2 : unL l t = l.tail := if_pos hh
      have e3 : unN l t = hold l.tail := if_pos hh
      rw [e1, e2, e3]
      have hht : hold l = t := hh.2.2
      have hnd := hO.nd
      clear e1 e2 e3 hO hh
      rw [hht] at c0
      obtain ⟨x, r, rfl⟩ : ∃ x r, l = x :: r := by
        cases l with
        | nil => exact absurd (show (0 : Int) = t from hht) (by omega)
        | cons x r => exact ⟨x, r, rfl⟩
      have hR : w.ownsRow base 3 1 v r.length (cZ r) := hM.row
      have tt : (t != t) = false := by simp
      cases r with
      | nil =>
        obtain ⟨av, ac, rfl⟩ := owns_slice hR
        have HA0 := hM.setHold (l2 := []) 0 rfl rfl
        have hf1 := HA0.cells.2.1
        have hf0 := HA0.cells.1
        rw [hold_nil] at hf0
        have HA := hide HA0
        clear HA0
        clear hM hR hht hnd
        simp only [List.length_nil] at c1 hf1 HA
        go_enter Try.func13, Try.ntmps13
        go_wp2
        go_ret2
        exact ⟨rfl, _, HA.out, (Mov.refl _ _).set (p := ⟨M, 0, none⟩) (Or.inl rfl) _, fun _ hk => Or.inr hk⟩
      | cons y q =>
        obtain ⟨g, c, rfl, _, hgl, hcell, hc⟩ := row_open hR (by simp)
        obtain ⟨p0, _⟩ := hcell 0 (by simp)
        have hgM : g ≠ M := fun e => hM.far (by show some g = some M; rw [e])
        have HA1 := hM.setHold (l2 := 0 :: y :: q) 0 rfl rfl
        have HA2 := HA1.setHold (l2 := y :: y :: q) y rfl rfl
        have hp : ((w.setCell ⟨M, 0, none⟩ (.int .i64 0)).setCell ⟨M, 0, none⟩ (.int .i64 y)).cell? ⟨M, 0, none⟩ = some (.int .i64 y) := HA2.cells.1
        have hnd2 := (List.nodup_cons.1 hnd).2
        have D := drop_any M base _ (y :: y :: q) (by simp at hl ⊢; omega) hnd2 y _ HA2
        have eD : dropL (y :: y :: q) y = y :: q := by
          show y :: rmZ (y :: q) y = y :: q
          have : rmZ (y :: q) y = q := by
            show (y :: q).filter _ = q
            rw [List.filter_cons_of_neg (by simp)]
            exact rm_none (inZ_false.2 (List.nodup_cons.1 hnd2).1)
          rw [this]
        rw [eD] at D
        have HD := hide D
        have p0' : w.cell? ⟨g, 0, none⟩ = some (.int .i64 y) := p0
        have hlp : (0 : Int) < ((y :: q).length : Int)   := by simp
        have HH : Hid (hold (y :: q) = y) := rfl
        clear D hcell eD hnd hnd2 hht hR hM p0 HA1
        have HA := hide HA2
        clear HA2
        show Calls Try.prog 13 _ w fun e w' => e = .returned (.tuple #[.int .i64 y, .int .i64 0]) ∧ NowM M base _ (y :: q) w w'
        generalize hL : (y :: q : List Int).length = L at *
        have HL := hide hL
        clear hL
        go_enter Try.func13, Try.ntmps13
        go_wp2_with fail
        refine HD.out.mono ?_
        rintro e w3 ⟨rfl, hN⟩
        obtain ⟨v3, hM3, hV3, hv3⟩ := hN
        obtain ⟨d0, _, _⟩ := hM3.cells
        rw [HH.out] at d0
        have HM3 := hide hM3
        have HV3 := hide hV3
        have HW3 := hide hv3
        clear hM3 hV3 hv3 p0' hp c1 c0
        go_wp2
        go_ret2
        have hset : Mov (Mine M (.slice (some ⟨g, 0, none⟩) L c)) w ((w.setCell ⟨M, 0, none⟩ (.int .i64 0)).setCell ⟨M, 0, none⟩ (.int .i64 y)) := ((Mov.refl _ _).set (p := ⟨M, 0, none⟩) (Or.inl rfl) _).set (p := ⟨M, 0, none⟩) (Or.inl rfl) _
        have hz : ((w.setCell ⟨M, 0, none⟩ (.int .i64 0)).setCell ⟨M, 0, none⟩ (.int .i64 y)).heap.size = w.heap.size := by simp
        exact ⟨rfl, v3, HM3.out, hset.trans HV3.out, fun k hk => by have := HW3.out k hk; rwa [hz] at this⟩
    · have e1 : unE l t = 11 := by unfold unE; rw [if_neg h1, if_neg hh]
      rw [(un_no hh).1, (un_no hh).2, e1]
      have ht : ¬ t = hold l := by
        intro e
        apply hh
        refine ⟨by omega, ?_, e.symm⟩
        intro h
        subst h
        rw [hold_nil] at e
        omega
      have ht' : (t != hold l) = true := by simpa using ht
      clear hM hh e1 ht hO
      generalize hold l = H at c0 ht'
      go_enter Try.func13, Try.ntmps13
      go_wp2
      go_ret2
      exact ⟨rfl, NowM.same HM.out (Below.refl _ _)⟩

end Go.Proofs.Ytbagkmijnjjmgaa
