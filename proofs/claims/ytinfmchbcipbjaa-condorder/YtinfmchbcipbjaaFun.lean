/-
  What the program's calls come to: New, Waits, Drop, Wait, Signal, Broadcast.
-/
import Derived.Test.YtinfmchbcipbjaaRow
import Derived.Deep.DeepCutAuto
namespace Go.Proofs.Ytinfmchbcipbjaa
open Go.RowKit

set_option maxHeartbeats 400000 in
theorem new_any (w : World) : Calls Try.prog 7 #[] w fun e w' => e = .returned (.pointer (some ⟨w.heap.size, 0, none⟩)) ∧ AtM w' w.heap.size w.heap.size (.slice none 0 0) [] ∧ Below w.heap.size w w' := by
  go_enter Try.func7, Try.ntmps7
  go_wp2
  go_ret
  exact ⟨rfl, ⟨heap_alloc_new _ _, rfl, .inl ⟨rfl, rfl⟩⟩, (Below.refl _ _).alloc (Nat.le_refl _) _⟩

set_option maxHeartbeats 400000 in
theorem waits_any (M base : Nat) (v : Value) (l : List Int) (hl : l.length ≤ 1000) (w : World) (hM : AtM w M base v l) : Calls Try.prog 17 #[.pointer (some ⟨M, 0, none⟩)] w fun e w' => Owned l w e w' := by
  obtain ⟨c1, _⟩ := hM.cells
  have HC := hide (clone_row hM.row hl)
  clear hM
  go_enter Try.func17, Try.ntmps17
  go_wp2_with fail
  refine HC.out.mono ?_
  rintro e w2 ⟨u, rfl, h1, h2⟩
  go_wp2
  go_ret
  exact ⟨u, rfl, h1, h2⟩

set_option maxHeartbeats 1000000 in
theorem drop_any (M base : Nat) (v : Value) (l : List Int) (hl : l.length ≤ 1000) (hnd : l.Nodup) (t : Int) (w : World) (hM : AtM w M base v l) :
    Calls Try.prog 8 #[.pointer (some ⟨M, 0, none⟩), .int .i64 t] w fun e w' => e = .returned (.bool (inZ l t)) ∧ NowM M base v (rmZ l t) w w' := by
  have F := index_row hM.row hl t
  obtain ⟨c1, cf⟩ := hM.cells
  have cf1 := cf 0
  cases hb : inZ l t
  · rw [idx_out hb] at F
    have HF := hide F
    have HM := hide hM
    have HE := hide (rm_none hb)
    clear F hM cf c1 cf1 hb hnd
    obtain ⟨c1, _⟩ := HM.out.cells
    go_enter Try.func8, Try.ntmps8
    go_wp2_with fail
    refine HF.out.mono ?_
    rintro e w2 ⟨rfl, hw2⟩
    subst hw2
    go_wp2
    go_ret
    rw [HE.out]
    exact ⟨rfl, NowM.same HM.out (Below.refl _ _)⟩
  · obtain ⟨k, h1, h2, h3⟩ := idx_in hb
    rw [h2] at F
    have D := delete_row hM.row h1
    rw [← rm_erase hnd h1 h3] at D
    have HF := hide F
    have HD := hide D
    have HM := hide hM
    have hwr : IntKind.i64.wrap ((k : Int) + 1) = ((k + 1 : Nat) : Int) := by rw [wrapB (by omega)]; rfl
    clear F D hM cf hb hnd h2 h3
    go_enter Try.func8, Try.ntmps8
    go_wp2_with fail
    refine HF.out.mono ?_
    rintro e w2 ⟨rfl, hw2⟩
    subst hw2
    go_wp2_with fail
    refine HD.out.mono ?_
    rintro e w3 ⟨v3, rfl, ho, hbl, hV⟩
    obtain ⟨av', ac', rfl⟩ := owns_slice ho
    have hbox : w3.heap[M]? = some (.cells #[v] 45 (0, 0)) := (hV.block M HM.out.lt HM.out.far).trans HM.out.box
    have hfr : w3.frozen? ⟨M, 0, none⟩ = false := Lib.frozen_of_heap hbox 0
    have hce : w3.cell? ⟨M, 0, none⟩ = some v := Lib.cell_of_heap hbox 0
    have HN := hide (NowM.setRow HM.out hV ho (fun j hj => Or.inr (by rw [← hbl]; exact hj)))
    clear hbox ho hV hbl c1 cf1
    go_wp2
    go_ret
    exact ⟨rfl, HN.out⟩

set_option maxHeartbeats 1000000 in
theorem wait_any (M base : Nat) (v : Value) (l : List Int) (hl : l.length ≤ 1000) (t : Int) (w : World) (hM : AtM w M base v l) (hbs : base ≤ w.heap.size) :
    Calls Try.prog 15 #[.pointer (some ⟨M, 0, none⟩), .int .i64 t] w fun e w' => e = .returned (.int .i64 (waitE l t)) ∧ NowM M base v (waitL l t) w w' := by
  obtain ⟨i3, hi, hz0, hz1, hz2⟩ := info_parts info3
  have F := contains_row hM.row hl t
  obtain ⟨c1, cf⟩ := hM.cells
  have cf1 := cf 0
  have HM := hide hM
  clear cf
  by_cases h1 : t < 1
  · rw [(wait_low (l := l) h1).1, (wait_low (l := l) h1).2]
    clear F hM
    go_enter Try.func15, Try.ntmps15
    go_wp2
    go_ret
    exact ⟨rfl, NowM.same HM.out (Below.refl _ _)⟩
  · cases hb : inZ l t
    · rw [(wait_out h1 hb).1, (wait_out h1 hb).2]
      rw [hb] at F
      have HF := hide F
      obtain ⟨av, ac, hv⟩ := owns_slice hM.row
      subst hv
      have hR := hM.row
      clear F hM hb
      generalize hd : l.length = n at *
      have HD := hide hd
      clear hd
      go_enter Try.func15, Try.ntmps15
      go_wp2_with fail
      refine HF.out.mono ?_
      rintro e w2 ⟨rfl, hw2⟩
      subst hw2
      go_wp2_with (at_builtin; refine wpList_append_own_at _ rfl _ _ 26 rfl base 3 i3 (.int .i64 0) 1 8 Try.underlying26 hi hz0 hz1 hz2 rfl (by decide) _ _ _ rfl (hR.alloc _) ⟨w2.heap.size, 0, none⟩ 1 1 [.int .i64 t] rfl rfl (newsI (by simp [go_sem])) (onesI _) (by unfold maxLen; omega) (by omega) (by simp; omega) ?_)
      intro v' w3 hown hgrow _ hat
      obtain ⟨av', ac', rfl⟩ := owns_slice hown
      have hA : Below w2.heap.size w2 (w2.alloc (.cells #[.int .i64 t] 3)) := (Below.refl _ _).alloc (Nat.le_refl _) _
      have hm3 : Mov (fun j => (Value.slice av n ac).ownBlock = some j) w2 w3 := ⟨hgrow.os.trans hA.os, hgrow.tape.trans hA.tape, hgrow.output.trans hA.output, Nat.le_trans hA.size hgrow.size, fun k hk hS =>
        (hgrow.block k (Nat.lt_of_lt_of_le hk hA.size) (fun e => hS e.symm)).trans (hA.block k hk)⟩
      have hbox : w3.heap[M]? = some (.cells #[.slice av n ac] 45 (0, 0)) := (hm3.block _ HM.out.lt HM.out.far).trans HM.out.box
      have hfr : w3.frozen? ⟨M, 0, none⟩ = false := Lib.frozen_of_heap hbox 0
      have hce : w3.cell? ⟨M, 0, none⟩ = some (.slice av n ac) := Lib.cell_of_heap hbox 0
      have HN := hide (NowM.setRow (x := .slice av' (n + 1) ac') (l2 := l ++ [t]) HM.out hm3 (by rw [cZ_snoc, List.length_append, HD.out]; exact hown) (fun k hk => by
        rcases hat with q | q
        · exact Or.inr (by rw [← q]; exact hk)
        · rw [q] at hk
          have := Option.some.inj hk
          have := hA.size
          exact Or.inl (by omega)))
      clear hown hgrow hat hR c1 cf1 hA hm3 hbox
      go_wp2
      go_ret
      exact ⟨rfl, HN.out⟩
    · rw [(wait_in h1 hb).1, (wait_in h1 hb).2]
      rw [hb] at F
      have HF := hide F
      clear F hM hb
      go_enter Try.func15, Try.ntmps15
      go_wp2_with fail
      refine HF.out.mono ?_
      rintro e w2 ⟨rfl, hw2⟩
      subst hw2
      go_wp2
      go_ret
      exact ⟨rfl, NowM.same HM.out (Below.refl _ _)⟩

theorem some_not {l : List Int} (h : l ≠ []) : some1 l = true := by
  cases l with
  | nil => exact absurd rfl h
  | cons x r => rfl

set_option maxHeartbeats 1000000 in
theorem signal_any (M base : Nat) (v : Value) (l : List Int) (hO : Okz l) (hl : l.length ≤ 1000) (w : World) (hM : AtM w M base v l) :
    Calls Try.prog 10 #[.pointer (some ⟨M, 0, none⟩)] w fun e w' => e = .returned (.tuple #[.int .i64 (hold l), .bool (some1 l)]) ∧ NowM M base v l.tail w w' := by
  by_cases hn : l = []
  · subst hn
    obtain ⟨c1, _⟩ := hM.cells
    obtain ⟨av, ac, hv⟩ := owns_slice hM.row
    subst hv
    have HM := hide hM
    clear hM
    rw [hold_nil, show some1 [] = false from rfl]
    simp only [List.length_nil] at c1
    go_enter Try.func10, Try.ntmps10
    go_wp2
    go_ret2
    exact ⟨rfl, NowM.same HM.out (Below.refl _ _)⟩
  · have h0 : 0 < l.length := List.length_pos_iff.2 hn
    have D := drop_any M base v l hl hO.nd (hold l) w hM
    rw [hold_in hn, rm_hold hO] at D
    rw [some_not hn]
    obtain ⟨c1, _⟩ := hM.cells
    obtain ⟨g, c, rfl, _, hg, hcell, _⟩ := row_open hM.row h0
    obtain ⟨e1, _⟩ := hcell 0 h0
    have HD := hide D
    have i1 : (0 : Int) < (l.length : Int) := by omega
    have i2 : ((l.length : Int) == 0) = false := by simp; omega
    clear D hM hcell hO hn
    unfold hold at *
    generalize gz l 0 = H at *
    generalize l.tail = T at *
    generalize l.length = n at *
    go_enter Try.func10, Try.ntmps10
    go_wp2_with fail
    refine HD.out.mono ?_
    rintro e w2 ⟨rfl, hN⟩
    have HN := hide hN
    clear hN
    go_wp2
    go_ret2
    exact ⟨rfl, HN.out⟩

set_option maxHeartbeats 400000 in
theorem broad_any (M base : Nat) (v : Value) (l : List Int) (w : World) (hM : AtM w M base v l) :
    Calls Try.prog 14 #[.pointer (some ⟨M, 0, none⟩)] w fun e w' => e = .returned v ∧ w' = w.setCell ⟨M, 0, none⟩ (.slice none 0 0) := by
  obtain ⟨c1, cf⟩ := hM.cells
  have cf1 := cf 0
  obtain ⟨av, ac, hv⟩ := owns_slice hM.row
  subst hv
  clear hM cf
  generalize l.length = n at *
  go_enter Try.func14, Try.ntmps14
  go_wp2
  go_ret
  exact ⟨rfl, rfl⟩

end Go.Proofs.Ytinfmchbcipbjaa
