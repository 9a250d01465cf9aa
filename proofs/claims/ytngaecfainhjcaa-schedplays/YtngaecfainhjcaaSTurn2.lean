/-
  What the program's Block comes to.
-/
import Derived.Test.YtngaecfainhjcaaSTurn
namespace Go.Proofs.Ytngaecfainhjcaa
open Go.RowKit A

set_option maxHeartbeats 1000000 in
theorem block_any (S B P base : Nat) (v : Value) (s : Sc) (hl : s.run.length ≤ 1000) (hnd : s.run.Nodup) (t : Int) (w : World) (hS : AtS w S B P base v s) :
    Calls Try.prog 18 #[.pointer (some ⟨S, 0, none⟩), .int .i64 t] w fun e w' => e = .returned (.bool (inB s.run t)) ∧ NowS S B P base v (blockOf s t) w w' := by
  have F := find_any S B P base v s hl t w hS
  obtain ⟨_, c1, cf⟩ := hS.cells
  have cf1 := cf 1
  cases hb : inB s.run t
  · rw [idxR_out hb] at F
    have HF := hide F
    have HS := hide hS
    have HE : Hid (blockOf s t = s) := by show (⟨s.a, rmOf s.run t⟩ : Sc) = s; rw [rm_none hb]
    clear F hS cf c1 cf1 hb hnd
    go_enter Try.func18, Try.ntmps18
    go_wp2_with fail
    refine HF.out.mono ?_
    rintro e w2 ⟨rfl, hw2⟩
    subst hw2
    go_wp2
    go_ret
    rw [HE.out]
    exact ⟨rfl, NowS.same HS.out (Below.refl _ _)⟩
  · obtain ⟨k, h1, h2, h3⟩ := idxR_in hb
    rw [h2] at F
    have D := delete_row hS.r h1
    rw [← rm_erase hnd h1 h3] at D
    have HF := hide F
    have HD := hide D
    have HS := hide hS
    have hwr : IntKind.i64.wrap ((k : Int) + 1) = ((k + 1 : Nat) : Int) := by rw [wrapB (by omega)]; rfl
    clear F D hS cf hb hnd h2 h3
    go_enter Try.func18, Try.ntmps18
    go_wp2_with fail
    refine HF.out.mono ?_
    rintro e w2 ⟨rfl, hw2⟩
    subst hw2
    go_wp2_with fail
    refine HD.out.mono ?_
    rintro e w3 ⟨v3, rfl, ho, hbl, hM⟩
    obtain ⟨av', ac', rfl⟩ := owns_slice ho
    have hbox : w3.heap[S]? = some (.cells #[.pointer (some ⟨B, 0, none⟩), v] 49 (0, 0)) := (hM.block S HS.out.ltS HS.out.far.1).trans HS.out.box
    have ha : AtA w3 B P s.a := HS.out.a.same (hM.block _ HS.out.a.ltB HS.out.far.2.1) (hM.block _ HS.out.a.ltP HS.out.far.2.2)
    have hfr : w3.frozen? ⟨S, 1, none⟩ = false := Lib.frozen_of_heap hbox 1
    have hce : w3.cell? ⟨S, 1, none⟩ = some v := Lib.cell_of_heap hbox 1
    have HB := hide hbox
    have HA := hide ha
    have HO := hide ho
    have HM := hide hM
    clear hbox ha ho hM c1 cf1
    go_wp2
    go_ret
    have hne := HS.out.ne
    refine ⟨rfl, _, ⟨Lib.heap_setCell_same HB.out _, HA.out.same (Below.heap_setCell _ _ _ _ (Ne.symm hne.1)) (Below.heap_setCell _ _ _ _ (Ne.symm hne.2)), owns_far HO.out fun j hj => Below.heap_setCell _ _ _ _ (fun e => row_box HO.out HB.out (by decide) (by rw [hj, e]))⟩, ?_, fun j hj => Or.inr (by rw [← hbl]; exact hj)⟩
    exact ((Mov.refl (MineS S B P v) w2).thn HM.out (fun i hi => Or.inr (Or.inr (Or.inr (Or.inr hi))))).set (p := ⟨S, 1, none⟩) (Or.inl rfl) _

theorem place_lt {s : Ar} {t : Int} (h : isB s t = false) : placeOf s t = -1 := place_miss (isB_not.1 h)
theorem place_nat {s : Ar} {t : Int} (h : isB s t = true) : placeOf s t = (kOf t : Int) := place_hit (isB_hits.1 h)

end Go.Proofs.Ytngaecfainhjcaa
