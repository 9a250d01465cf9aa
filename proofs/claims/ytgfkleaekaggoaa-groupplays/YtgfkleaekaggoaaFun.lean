/-
  What the program's calls come to: New, Count, Waits, Drop.
-/
import Derived.Test.YtgfkleaekaggoaaRow
import Derived.Deep.DeepCutAuto
namespace Go.Proofs.Ytgfkleaekaggoaa
open Go.RowKit

set_option maxHeartbeats 400000 in
theorem new_any (w : World) : Calls Try.prog 8 #[] w fun e w' => e = .returned (.pointer (some ⟨w.heap.size, 0, none⟩)) ∧ AtM w' w.heap.size w.heap.size (.slice none 0 0) 0 [] ∧ Below w.heap.size w w' := by
  go_enter Try.func8, Try.ntmps8
  go_wp2
  go_ret
  exact ⟨rfl, ⟨heap_alloc_new _ _, rfl, .inl ⟨rfl, rfl⟩⟩, (Below.refl _ _).alloc (Nat.le_refl _) _⟩

set_option maxHeartbeats 400000 in
theorem count_any (M base : Nat) (v : Value) (c : Int) (l : List Int) (w : World) (hM : AtM w M base v c l) : Calls Try.prog 16 #[.pointer (some ⟨M, 0, none⟩)] w fun e w' => e = .returned (.int .i64 c) ∧ w' = w := by
  obtain ⟨c0, _, _⟩ := hM.cells
  clear hM
  go_enter Try.func16, Try.ntmps16
  go_wp2
  go_ret
  exact ⟨rfl, rfl⟩
set_option maxHeartbeats 400000 in
theorem waits_any (M base : Nat) (v : Value) (c : Int) (l : List Int) (hl : l.length ≤ 1000) (w : World) (hM : AtM w M base v c l) : Calls Try.prog 17 #[.pointer (some ⟨M, 0, none⟩)] w fun e w' => Owned l w e w' := by
  obtain ⟨_, c1, _⟩ := hM.cells
  have HC := hide (clone_row hM.row hl)
  clear hM
  go_enter Try.func17, Try.ntmps17
  go_wp2_with fail
  refine HC.out.mono ?_
  rintro e w2 ⟨u, rfl, h1, h2⟩
  go_wp2
  go_ret
  exact ⟨u, rfl, h1, h2⟩

set_option maxHeartbeats 1000000 in
theorem drop_any (M base : Nat) (v : Value) (c : Int) (l : List Int) (hl : l.length ≤ 1000) (hnd : l.Nodup) (t : Int) (w : World) (hM : AtM w M base v c l) :
    Calls Try.prog 9 #[.pointer (some ⟨M, 0, none⟩), .int .i64 t] w fun e w' => e = .returned (.bool (inZ l t)) ∧ NowM M base v c (rmZ l t) w w' := by
  have F := index_row hM.row hl t
  obtain ⟨_, c1, cf⟩ := hM.cells
  have cf1 := cf 1
  cases hb : inZ l t
  · rw [idx_out hb] at F
    have HF := hide F
    have HM := hide hM
    have HE := hide (rm_none hb)
    clear F hM cf c1 cf1 hb hnd
    obtain ⟨_, c1, _⟩ := HM.out.cells
    go_enter Try.func9, Try.ntmps9
    go_wp2_with fail
    refine HF.out.mono ?_
    rintro e w2 ⟨rfl, hw2⟩
    subst hw2
    go_wp2
    go_ret
    rw [HE.out]
    exact ⟨rfl, NowM.same HM.out (Below.refl _ _)⟩
  · obtain ⟨k, h1, h2, h3⟩ := idx_in hb
    rw [h2] at F
    have D := delete_row hM.row h1
    rw [← rm_erase hnd h1 h3] at D
    have HF := hide F
    have HD := hide D
    have HM := hide hM
    have hwr : IntKind.i64.wrap ((k : Int) + 1) = ((k + 1 : Nat) : Int) := by rw [wrapB (by omega)]; rfl
    clear F D hM cf hb hnd h2 h3
    go_enter Try.func9, Try.ntmps9
    go_wp2_with fail
    refine HF.out.mono ?_
    rintro e w2 ⟨rfl, hw2⟩
    subst hw2
    go_wp2_with fail
    refine HD.out.mono ?_
    rintro e w3 ⟨v3, rfl, ho, hbl, hV⟩
    obtain ⟨av', ac', rfl⟩ := owns_slice ho
    have hbox : w3.heap[M]? = some (.cells #[.int .i64 c, v] 47 (0, 0)) := (hV.block M HM.out.lt HM.out.far).trans HM.out.box
    have hfr : w3.frozen? ⟨M, 1, none⟩ = false := Lib.frozen_of_heap hbox 1
    have hce : w3.cell? ⟨M, 1, none⟩ = some v := Lib.cell_of_heap hbox 1
    have HB := hide hbox
    have HO := hide ho
    have HV := hide hV
    have HL := hide hbl
    clear hbox ho hV hbl c1 cf1
    go_wp2
    go_ret
    refine ⟨rfl, _, ⟨?_, ?_⟩, ?_, fun j hj => Or.inr (by rw [← HL.out]; exact hj)⟩
    · exact Lib.heap_setCell_same HB.out _
    · exact owns_far HO.out fun j hj => Below.heap_setCell _ _ _ _ (fun e => row_box HO.out HB.out (by decide) (by rw [hj]; exact congrArg some e))
    · exact ((Mov.refl (Mine M v) w2).thn HV.out (fun i hi => Or.inr (Or.inr hi))).set (p := ⟨M, 1, none⟩) (Or.inl rfl) _


end Go.Proofs.Ytgfkleaekaggoaa
