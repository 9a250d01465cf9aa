/-
  What the document's Remove comes to.
-/
import Derived.Test.YtonahaembfbgbaaRefNew
namespace Go.Proofs.Ytonahaembfbgbaa
open Go.RowKit

/-- What there is of the document's queues behind a call that may turn them. -/
def NowR (R T : Nat) (s : Qs) (w w' : World) : Prop := ∃ vs, AtR w' R T s vs ∧ Turn R T w w'

def rest (l : List Nat) (y j : Nat) : List Nat := (l.take j).filter (fun z => z != y)
theorem rest_len (l : List Nat) (y j : Nat) : (rest l y j).length ≤ j := by
  unfold rest
  have := List.length_filter_le (fun z => z != y) (l.take j)
  rw [List.length_take] at this
  omega
theorem rest_yes {l : List Nat} {y j : Nat} (hj : j < l.length) (h : gs_ l j ≠ y) : rest l y (j + 1) = rest l y j ++ [gs_ l j] := by
  unfold rest
  rw [List.take_add_one, show l[j]? = some (gs_ l j) by simp [gs_, hj], List.filter_append]
  simp [h]
theorem rest_no {l : List Nat} {y j : Nat} (hj : j < l.length) (h : gs_ l j = y) : rest l y (j + 1) = rest l y j := by
  unfold rest
  rw [List.take_add_one, show l[j]? = some (gs_ l j) by simp [gs_, hj], List.filter_append]
  simp [h]
theorem rest_all (l : List Nat) (y : Nat) : rest l y l.length = l.filter (fun z => z != y) := by unfold rest; rw [List.take_length]

set_option maxHeartbeats 4000000 in
theorem refRemove_any (R T : Nat) (s : Qs) (vs : Nat → Value) (x : Int) (w : World) (hs : Ok s) (hR : AtR w R T s vs) :
    Calls Try.prog 13 #[.pointer (some ⟨R, 0, none⟩), .int .i64 x] w fun e w' => e = .returned (.bool (rmB s x)) ∧ NowR R T (rmOf s x) w w' := by
  obtain ⟨i3, hi, hz0, hz1, hz2⟩ := info_parts info3
  have hW := refWhere_any R T s vs x w hs hR
  by_cases h0 : whereOf s x = -1
  · have e : rmB s x = false ∧ rmOf s x = s := ⟨if_pos h0, if_pos h0⟩
    rw [e.1, e.2]
    rw [h0] at hW
    have HR := hide hR
    clear hR e h0
    go_enter Try.func13, Try.ntmps13
    go_wp2_with (go_at_call 20; refine hW.mono ?_; rintro e w2 ⟨rfl, hw2⟩; have hw2' := hw2.symm; clear hw2; subst hw2')
    go_ret
    exact ⟨rfl, vs, HR.out, Turn.refl _ _ _⟩
  · obtain ⟨k, y, rfl, hy, hk, hw, hwh⟩ := whereOf_at hs h0
    have e : rmB s (y : Int) = true ∧ rmOf s (y : Int) = rmAt s k y := ⟨if_neg h0, by unfold rmOf; rw [if_neg h0, hwh]; simp⟩
    rw [e.1, e.2]
    rw [hwh] at hW
    have hfew := all_few hs (k : Int)
    rw [all_nat hk] at hfew
    have h32 := hs.nq
    have hRr := hR.row k hk
    obtain ⟨a, c, hv⟩ := owns_slice hRr
    rw [hv] at hRr
    have HRow := hide hRr
    have HV := hide hv
    have HR := hide hR
    have hk' : (k : Int) < (s.nq : Int) := by omega
    have hk0 : ¬ (k : Int) < 0 := by omega
    have HW := hide hW
    have HE : Hid (Ok s ∧ k < s.nq ∧ y < s.ni ∧ s.wh y = (k : Int)) := ⟨hs, hk, hy, hw⟩
    have HK : Hid (∀ W, Below w.heap.size w W → W.cell? ⟨R, 0, none⟩ = some (.slice (some ⟨T, 0, none⟩) s.nq s.nq) ∧ W.cell? ⟨T, k, none⟩ = some (.slice a (s.l k).length c) ∧ W.frozen? ⟨T, k, none⟩ = false) := fun W hb =>
      ⟨(HR.out.below hb).cells.1, ((HR.out.below hb).at hk).1.trans (by rw [HV.out]), ((HR.out.below hb).at hk).2⟩
    clear hR hRr hv e h0 hwh hs hk hy hw hW
    go_enter Try.func13, Try.ntmps13
    go_wp2_with (go_at_call 20; refine HW.out.mono ?_; rintro e w2 ⟨rfl, hw2⟩; have hw2' := hw2.symm; clear hw2; subst hw2')
    go_loopw [6, 7] (fun v i wr => ∃ j : Nat, j ≤ (s.l k).length ∧ i = .int .i64 j ∧ wr.ownsRow w.heap.size 3 1 v (rest (s.l k) y j).length (cI (rest (s.l k) y j)) ∧ Below w.heap.size w wr) (fun _ i _ => (s.l k).length - (intOf i).toNat)
    case atStart => exact ⟨0, Nat.zero_le _, rfl, World.ownsRow_lit w #[] 0 (Nat.le_refl _) (by unfold maxLen; omega) rfl, (Below.refl _ _).alloc (Nat.le_refl _) _⟩
    case round =>
      obtain ⟨j, hj, rfl, hw, hb⟩ := hrel
      obtain ⟨c0, c1, f1⟩ := HK.out wr hb
      have hz := hb.size
      by_cases hjl : j < (s.l k).length
      · have hjl' : (j : Int) < ((s.l k).length : Int) := by omega
        obtain ⟨g, d, hv, _, hgl, hcell, _⟩ := row_open HRow.out (by omega)
        simp only [Value.slice.injEq, true_and] at hv
        obtain ⟨rfl, rfl⟩ := hv
        have cj : wr.cell? ⟨g, j, none⟩ = some (.int .i64 ((gs_ (s.l k) j : Nat) : Int)) := (hb.cell (p := ⟨g, j, none⟩) hgl).trans (hcell j hjl).1
        have hrl := rest_len (s.l k) y j
        clear hcell
        by_cases hyx : gs_ (s.l k) j = y
        · have HN := hide (rest_no hjl hyx)
          have hne : (((gs_ (s.l k) j : Nat) : Int) != (y : Int)) = false := by simp [hyx]
          have HO := hide hw
          clear hyx hw
          generalize gs_ (s.l k) j = z at *
          go_wp2
          go_roundw
          case rel => exact ⟨j + 1, by omega, by go_num, by rw [HN.out]; exact HO.out, hb⟩
          case measure => simp [intOf]; omega
        · have HN := hide (rest_yes hjl hyx)
          have hne : (((gs_ (s.l k) j : Nat) : Int) != (y : Int)) = true := by simp; omega
          clear hyx
          generalize gs_ (s.l k) j = z at *
          go_wp2_with (at_builtin; refine wpList_append_own _ rfl _ _ 37 rfl w.heap.size 3 i3 (.int .i64 0) 1 8 Try.underlying37 hi hz0 hz1 hz2 rfl (by decide) _ _ _ rfl (hw.alloc _) ⟨wr.heap.size, 0, none⟩ 1 1 [.int .i64 (z : Int)] rfl rfl (cell_one_new _ _ _) (by simp [Value.oneCell']) (by unfold maxLen; omega) (by omega) (by simp; omega) ?_)
          intro v' w4 hown' hgrow _
          have hb4 := below_owns hb hz hw (Nat.le_refl _) hgrow
          have HO := hide (show w4.ownsRow w.heap.size 3 1 v' (rest (s.l k) y (j + 1)).length (cI (rest (s.l k) y (j + 1))) by rw [HN.out, cI_snoc, List.length_append]; exact hown')
          clear hown' hgrow hw
          go_wp2
          go_roundw
          case rel => exact ⟨j + 1, by omega, by go_num, HO.out, hb4⟩
          case measure => simp [intOf]; omega
      · obtain rfl : j = (s.l k).length := by omega
        have hjl' : ¬ ((s.l k).length : Int) < ((s.l k).length : Int) := by omega
        obtain ⟨a2, c2, rfl⟩ := owns_slice hw
        have HO := hide (owns_mono hw (Nat.zero_le _))
        have HSET := hide (fun v h => HR.out.set (v := v) (l := rest (s.l k) y (s.l k).length) (s' := rmAt s k y) (k := k) hb h HE.out.2.1 rfl rfl (fun j _ => by
          show setL s.l k ((s.l k).filter (fun z => z != y)) j = _
          rw [rest_all]
          unfold setL
          rfl))
        clear hw
        go_wp2
        go_ret
        exact ⟨rfl, _, (HSET.out _ HO.out).1, (HSET.out _ HO.out).2⟩

theorem lit1 (w : World) : (w.alloc (.cells #[] 3)).drew.ownsRow w.heap.size 3 1 (.slice (some ⟨w.heap.size, 0, none⟩) 0 0) 0 [] := (World.ownsRow_lit w #[] 0 (Nat.le_refl _) (by unfold maxLen; omega) rfl).drew
theorem lit2 (w : World) (x : Int) : ((w.alloc (.cells #[] 3)).alloc (.cells #[.int .i64 x] 3)).drew.ownsRow w.heap.size 3 1 (.slice (some ⟨w.heap.size, 0, none⟩) 0 0) 0 [] := ((World.ownsRow_lit w #[] 0 (Nat.le_refl _) (by unfold maxLen; omega) rfl).alloc _).drew
theorem lit3 (w : World) (x : Int) : ((w.alloc (.cells #[.int .i64 x] 3)).alloc (.cells #[] 3)).drew.ownsRow w.heap.size 3 1 (.slice (some ⟨w.heap.size + 1, 0, none⟩) 0 0) 0 [] := by
  have h := World.ownsRow_lit (base := w.heap.size) (e := 3) (size := 1) (w.alloc (.cells #[.int .i64 x] 3)) #[] 0 (by simp) (by unfold maxLen; omega) rfl
  simp only [World.size_alloc] at h
  exact h.drew
theorem bel1 (w : World) (o : Obj) : Below w.heap.size w (w.alloc o).drew := ((Below.refl _ _).alloc (Nat.le_refl _) _).drew
theorem bel2 (w : World) (o p : Obj) : Below w.heap.size w ((w.alloc o).alloc p).drew := (((Below.refl _ _).alloc (Nat.le_refl _) _).alloc (by simp) _).drew

end Go.Proofs.Ytonahaembfbgbaa
