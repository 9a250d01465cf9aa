/-
  What the program's calls come to: New, Holder, Waits, Drop, Try.
-/
import Derived.Test.YtbagkmijnjjmgaaRow
import Derived.Deep.DeepCutAuto
namespace Go.Proofs.Ytbagkmijnjjmgaa
open Go.RowKit

set_option maxHeartbeats 400000 in
theorem new_any (w : World) : Calls Try.prog 8 #[] w fun e w' => e = .returned (.pointer (some ⟨w.heap.size, 0, none⟩)) ∧ AtM w' w.heap.size w.heap.size (.slice none 0 0) [] ∧ Below w.heap.size w w' := by
  go_enter Try.func8, Try.ntmps8
  go_wp2
  go_ret
  exact ⟨rfl, ⟨heap_alloc_new _ _, rfl, .inl ⟨rfl, rfl⟩⟩, (Below.refl _ _).alloc (Nat.le_refl _) _⟩

set_option maxHeartbeats 400000 in
theorem holder_any (M base : Nat) (v : Value) (l : List Int) (w : World) (hM : AtM w M base v l) : Calls Try.prog 16 #[.pointer (some ⟨M, 0, none⟩)] w fun e w' => e = .returned (.int .i64 (hold l)) ∧ w' = w := by
  obtain ⟨c0, _, _⟩ := hM.cells
  clear hM
  generalize hold l = H at *
  go_enter Try.func16, Try.ntmps16
  go_wp2
  go_ret
  exact ⟨rfl, rfl⟩
set_option maxHeartbeats 400000 in
theorem waits_any (M base : Nat) (v : Value) (l : List Int) (hl : l.length ≤ 1000) (w : World) (hM : AtM w M base v l) : Calls Try.prog 19 #[.pointer (some ⟨M, 0, none⟩)] w fun e w' => Owned l.tail w e w' := by
  obtain ⟨_, c1, _⟩ := hM.cells
  have HC := hide (clone_row hM.row (by have := List.length_tail (l := l); omega))
  clear hM
  go_enter Try.func19, Try.ntmps19
  go_wp2_with fail
  refine HC.out.mono ?_
  rintro e w2 ⟨u, rfl, h1, h2⟩
  go_wp2
  go_ret
  exact ⟨u, rfl, h1, h2⟩

theorem drop_no {l : List Int} {t : Int} (h : inZ l.tail t = false) : dropL l t = l := by
  unfold dropL
  rw [rm_none h]
  cases l <;> rfl
theorem drop_tail {l : List Int} {t : Int} (h : inZ l.tail t = true) : (dropL l t).tail = rmZ l.tail t ∧ hold (dropL l t) = hold l := by
  cases l with
  | nil => simp [inZ] at h
  | cons x r => exact ⟨rfl, rfl⟩

set_option maxHeartbeats 1000000 in
theorem drop_any (M base : Nat) (v : Value) (l : List Int) (hl : l.length ≤ 1000) (hnd : l.tail.Nodup) (t : Int) (w : World) (hM : AtM w M base v l) :
    Calls Try.prog 9 #[.pointer (some ⟨M, 0, none⟩), .int .i64 t] w fun e w' => e = .returned (.bool (dropB l t)) ∧ NowM M base v (dropL l t) w w' := by
  have hl' : l.tail.length ≤ 1000 := by have := List.length_tail (l := l); omega
  have F := index_row hM.row hl' t
  obtain ⟨_, c1, cf⟩ := hM.cells
  have cf1 := cf 1
  unfold dropB
  cases hb : inZ l.tail t
  · rw [idx_out hb] at F
    have HF := hide F
    have HM := hide hM
    have HE := hide (drop_no hb)
    clear F hM cf c1 cf1 hb hnd
    obtain ⟨_, c1, _⟩ := HM.out.cells
    go_enter Try.func9, Try.ntmps9
    go_wp2_with fail
    refine HF.out.mono ?_
    rintro e w2 ⟨rfl, hw2⟩
    subst hw2
    go_wp2
    go_ret
    rw [HE.out]
    exact ⟨rfl, NowM.same HM.out (Below.refl _ _)⟩
  · obtain ⟨k, h1, h2, h3⟩ := idx_in hb
    rw [h2] at F
    have D := delete_row hM.row h1
    rw [← rm_erase hnd h1 h3] at D
    have HF := hide F
    have HD := hide D
    have HM := hide hM
    have HE := hide (drop_tail hb)
    have hwr : IntKind.i64.wrap ((k : Int) + 1) = ((k + 1 : Nat) : Int) := by rw [wrapB (by omega)]; rfl
    clear F D hM cf hb hnd h2 h3
    go_enter Try.func9, Try.ntmps9
    go_wp2_with fail
    refine HF.out.mono ?_
    rintro e w2 ⟨rfl, hw2⟩
    subst hw2
    go_wp2_with fail
    refine HD.out.mono ?_
    rintro e w3 ⟨v3, rfl, ho, hbl, hV⟩
    obtain ⟨av', ac', rfl⟩ := owns_slice ho
    have hbox : w3.heap[M]? = some (.cells #[.int .i64 (hold l), v] 49 (0, 0)) := (hV.block M HM.out.lt HM.out.far).trans HM.out.box
    have hfr : w3.frozen? ⟨M, 1, none⟩ = false := Lib.frozen_of_heap hbox 1
    have hce : w3.cell? ⟨M, 1, none⟩ = some v := Lib.cell_of_heap hbox 1
    have HB := hide hbox
    have HO := hide ho
    have HV := hide hV
    have HL := hide hbl
    clear hbox ho hV hbl c1 cf1
    go_wp2
    go_ret
    refine ⟨rfl, _, ⟨?_, ?_⟩, ?_, fun j hj => Or.inr (by rw [← HL.out]; exact hj)⟩
    · rw [HE.out.2]; exact Lib.heap_setCell_same HB.out _
    · rw [HE.out.1]; exact owns_far HO.out fun j hj => Below.heap_setCell _ _ _ _ (fun e => row_box HO.out HB.out (by decide) (by rw [hj]; exact congrArg some e))
    · exact ((Mov.refl (Mine M v) w2).thn HV.out (fun i hi => Or.inr (Or.inr hi))).set (p := ⟨M, 1, none⟩) (Or.inl rfl) _

theorem not_hold {l : List Int} {t : Int} (h : inZ l t = false) (h1 : ¬ t < 1) : ¬ t = hold l := by
  intro e
  by_cases hn : l = []
  · subst hn; rw [hold_nil] at e; omega
  · have := hold_in hn
    rw [← e, h] at this
    cases this
theorem not_tail {l : List Int} {t : Int} (h : inZ l t = false) : inZ l.tail t = false := by
  cases hb : inZ l.tail t
  · rfl
  · have := (in_split l t).2 (Or.inr hb)
    rw [h] at this
    cases this

set_option maxHeartbeats 1000000 in
theorem try_any (M base : Nat) (v : Value) (l : List Int) (hO : Okz l) (hl : l.length ≤ 1000) (t : Int) (w : World) (hM : AtM w M base v l) :
    Calls Try.prog 11 #[.pointer (some ⟨M, 0, none⟩), .int .i64 t] w fun e w' => e = .returned (.int .i64 (tryE l t)) ∧ NowM M base v (tryL l t) w w' := by
  have hl' : l.tail.length ≤ 1000 := by have := List.length_tail (l := l); omega
  have F := contains_row hM.row hl' t
  obtain ⟨c0, c1, cf⟩ := hM.cells
  have cf0 := cf 0
  have HM := hide hM
  clear hM cf
  by_cases h1 : t < 1
  · have e1 : tryE l t = 1 := if_pos h1
    have e2 : tryL l t = l := if_pos h1
    rw [e1, e2]
    clear F e1 e2
    go_enter Try.func11, Try.ntmps11
    go_wp2
    go_ret
    exact ⟨rfl, NowM.same HM.out (Below.refl _ _)⟩
  · cases hb : inZ l t
    · have hh := not_hold hb h1
      rw [not_tail hb] at F
      have HF := hide F
      by_cases hn : l = []
      · subst hn
        have e1 : tryE [] t = 0 := by unfold tryE; rw [if_neg h1, hb]; rfl
        have e2 : tryL [] t = [t] := by unfold tryL; rw [if_neg h1, hb]; rfl
        rw [e1, e2]
        rw [hold_nil] at c0 hh
        have hh' : (t == 0) = false := by simpa using hh
        clear F e1 e2 hb hh
        go_enter Try.func11, Try.ntmps11
        go_wp2_with fail
        refine HF.out.mono ?_
        rintro e w2 ⟨rfl, hw2⟩
        subst hw2
        go_wp2
        go_ret
        exact ⟨rfl, v, HM.out.setHold t rfl rfl, (Mov.refl _ _).set (p := ⟨M, 0, none⟩) (Or.inl rfl) _, fun _ hk => Or.inr hk⟩
      · have hp := hold_pos hO hn
        have e1 : tryE l t = 12 := by unfold tryE; rw [if_neg h1, hb, if_neg (by simp), if_neg hn]
        have e2 : tryL l t = l := by unfold tryL; rw [if_neg h1, hb, if_neg (by simp), if_neg hn]
        rw [e1, e2]
        have hh' : (t == hold l) = false := by simpa using hh
        have hh2 : (hold l != 0) = true := by have : hold l ≠ 0 := by omega
                                              simpa using this
        clear F e1 e2 hb hh
        generalize hold l = H at c0 hh' hh2 hp
        go_enter Try.func11, Try.ntmps11
        go_wp2_with fail
        refine HF.out.mono ?_
        rintro e w2 ⟨rfl, hw2⟩
        subst hw2
        go_wp2
        go_ret
        exact ⟨rfl, NowM.same HM.out (Below.refl _ _)⟩
    · have e1 : tryE l t = 11 := by unfold tryE; rw [if_neg h1, hb, if_pos rfl]
      have e2 : tryL l t = l := by unfold tryL; rw [if_neg h1, hb, if_pos rfl]
      rw [e1, e2]
      by_cases hh : t = hold l
      · have hh' : (t == hold l) = true := by simpa using hh
        clear F e1 e2 hb hh
        generalize hold l = H at c0 hh'
        go_enter Try.func11, Try.ntmps11
        go_wp2
        go_ret
        exact ⟨rfl, NowM.same HM.out (Below.refl _ _)⟩
      · have hh' : (t == hold l) = false := by simpa using hh
        have ht : inZ l.tail t = true := by
          rcases (in_split l t).1 hb with q | q
          · exact absurd q.2.symm hh
          · exact q
        rw [ht] at F
        have HF := hide F
        clear F e1 e2 hb hh ht
        generalize hold l = H at c0 hh'
        go_enter Try.func11, Try.ntmps11
        go_wp2_with fail
        refine HF.out.mono ?_
        rintro e w2 ⟨rfl, hw2⟩
        subst hw2
        go_wp2
        go_ret
        exact ⟨rfl, NowM.same HM.out (Below.refl _ _)⟩

end Go.Proofs.Ytbagkmijnjjmgaa
