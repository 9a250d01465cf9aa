/-
  What policy.readDomain comes to: the line of a domain.
-/
import Derived.Test.YtmhjoomkeidcaaaDoorRSlot
import Derived.Lib.QuietBelow
import Derived.BigQuiet
namespace Go.Proofs.YtmhjoomkeidcaaaDoor
open Go.RowKit L2
attribute [local go_sem ↓] Go.wp_at_zero Go.wp_at_succ
attribute [local go_sem] regrown_cell

theorem info37 : (Tryd.prog.info? 37).map (fun i => (i.zero, i.size, i.bytes)) = some (some (.agg #[.string ⟨#[]⟩, .int .i64 0, .int .i64 0, .int .i64 0, .int .i64 0, .int .i64 0]), 6, 56) := by kernel_rfl
theorem ones6 (t : ByteArray) (a b c d e : Int) : ∀ u ∈ [Value.string t, .int .i64 a, .int .i64 b, .int .i64 c, .int .i64 d, .int .i64 e], u.oneCell' = true := by
  intro u hu
  simp at hu
  rcases hu with rfl | rfl | rfl | rfl | rfl | rfl <;> rfl

theorem dom_lab {w : World} {b : Nat} {x y z u v t y' z' : Value} {T : TypeId} (h : w.heap[b]? = some (.cells #[x, y, z, u, v, t] T (0, 0))) : ((w.setCell ⟨b, 1, none⟩ y').setCell ⟨b, 2, none⟩ z').heap[b]? = some (.cells #[x, y', z', u, v, t] T (0, 0)) :=
  Lib.heap_setCell_same (Lib.heap_setCell_same h y') z'

/-- Three pointers that were just laid. -/
theorem three_ptrs {W : World} {n b : Nat} (h : W.heap.size = n) : ∀ j, j < 3 → (W.alloc (.cells #[.pointer (some ⟨b, 3, none⟩), .pointer (some ⟨b, 4, none⟩), .pointer (some ⟨b, 5, none⟩)] 121)).cell? ⟨n, j, none⟩ = some (.pointer (some ⟨b, 3 + j, none⟩)) := by
  subst h
  intro j hj
  rw [Lib.cell_of_heap (alloc_at W _) j]
  match j, hj with
  | 0, _ => rfl
  | 1, _ => rfl
  | 2, _ => rfl

set_option maxHeartbeats 4000000 in
set_option maxRecDepth 100000 in
theorem readDomain_any (B base rb ro cap : Nat) (v1 v2 v3 : Value) (p : Pol) (nm lb x0 x1 x2 : ByteArray) (w : World) (hP : PAt w B base v1 v2 v3 p) (hl : p.ds.length ≤ 5000)
    (c0 : w.cell? ⟨rb, ro, none⟩ = some (.string nm)) (c1 : w.cell? ⟨rb, ro + 1, none⟩ = some (.string lb)) (c2 : w.cell? ⟨rb, ro + 2, none⟩ = some (.string x0)) (c3 : w.cell? ⟨rb, ro + 3, none⟩ = some (.string x1)) (c4 : w.cell? ⟨rb, ro + 4, none⟩ = some (.string x2)) (hrb : rb < w.heap.size) (hcap : 5 ≤ cap) :
    Calls Tryd.prog 57 #[.pointer (some ⟨B, 0, none⟩), .slice (some ⟨rb, ro, none⟩) 5 cap] w fun e w' =>
      e = .returned (.int .i64 ((domLine p nm lb x0 x1 x2).1 : Nat)) ∧ (∃ v1 v2 v3, PAt w' B base v1 v2 v3 (domLine p nm lb x0 x1 x2).2) ∧ But B base w w' := by
  obtain ⟨i0, hi, hz0, hz1', hz2'⟩ := info_parts info37
  have hBl : B < w.heap.size := by have := hP.lt; have := hP.le; omega
  have hbw := hP.le
  obtain ⟨b0, b1, b2, f0, f1, f2⟩ := blk_cells hP.blk
  obtain ⟨a1, a2, a3, c1', c2', c3', e1, e2, e3, hh⟩ := hP.held
  have HP : Hid (PAt w B base v1 v2 v3 p) := hP
  have HD : Hid (∀ W, Below w.heap.size w W → Calls Tryd.prog 46 #[.slice a1 p.ds.length c1', .string nm] W fun e w' => e = .returned (.int .i64 (placeOf p.ds nm)) ∧ Below W.heap.size W w') := fun W hW =>
    place_any a1 p.ds.length c1' p.ds nm W rfl hl (hh.below hW).d
  clear hh hP
  rw [e1] at b0
  clear e1 e2 e3
  have HM : Hid (∀ W : World, Calls Tryd.prog 45 #[.string nm] W fun e w' => e = .returned (.bool (nameB nm)) ∧ Below W.heap.size W w') := fun W => name_any nm W
  have hR := fun W => read_any lb W
  have HDL : Hid ((!nameB nm || decide (0 ≤ placeOf p.ds nm)) = true → domLine p nm lb x0 x1 x2 = (4, p)) := fun h => if_pos h
  have HDN : Hid ((!nameB nm || decide (0 ≤ placeOf p.ds nm)) = false → domLine p nm lb x0 x1 x2 = match refRead lb with | none => (3, p) | some (l, k) => match numsOf [x0, x1, x2] 3 with | some [x, y, z] => (0, { p with ds := p.ds ++ [⟨nm, (l : Int), (k : Int), (x : Int), (y : Int), (z : Int)⟩] }) | _ => (2, p)) := fun h => by
    unfold domLine
    rw [if_neg (by rw [h]; simp)]
    rfl
  generalize placeOf p.ds nm = pl at *
  cases hm : nameB nm
  · rw [hm] at HM HDL
    have HL : Hid (domLine p nm lb x0 x1 x2 = (4, p)) := HDL.out rfl
    go_enter Tryd.func57, Tryd.ntmps57
    go_wp2_with fail
    refine wp_region_quiet_below (by kernel_rfl) (by kernel_rfl) ?_
    repeat (first | go_big_quiet_skip | quiet_step ((go_at_call 45; exact Calls.regrown_of (HM.out _))))
    refine wpQuiet_nil ?_
    intro w1 hw'
    have hb1 := below_of_regrown hw'
    clear hw'
    have hB1 : Below w.heap.size w w1 := (below1 _ _).trans (hb1.mono (by simp))
    go_wp2
    go_ret
    rw [HL.out]
    exact ⟨rfl, ⟨_, _, _, HP.out.below hB1⟩, Below.but hB1 HP.out.le⟩
  · rw [hm] at HM HDL HDN
    by_cases hpl : 0 ≤ pl
    · have hd : decide (0 ≤ pl) = true := decide_eq_true hpl
      have HL : Hid (domLine p nm lb x0 x1 x2 = (4, p)) := HDL.out (by rw [hd]; rfl)
      go_enter Tryd.func57, Tryd.ntmps57
      go_wp2_with fail
      refine wp_region_quiet_below (by kernel_rfl) (by kernel_rfl) ?_
      repeat (first | go_big_quiet_skip | quiet_step (first | (go_at_call 45; exact Calls.regrown_of (HM.out _)) | (go_at_call 46; exact Calls.regrown_of (HD.out _ ((below1 _ _).trans ((below_regrown _ _ _).mono (by simp)))))))
      refine wpQuiet_nil ?_
      intro w1 hw'
      have hb1 := below_of_regrown hw'
      clear hw'
      have hB1 : Below w.heap.size w w1 := (below1 _ _).trans (hb1.mono (by simp))
      go_wp2
      go_ret
      rw [HL.out]
      exact ⟨rfl, ⟨_, _, _, HP.out.below hB1⟩, Below.but hB1 HP.out.le⟩
    · have hd : decide (0 ≤ pl) = false := decide_eq_false hpl
      have HL3 := HDN.out (by rw [hd]; rfl)
      clear HDN HDL
      cases hrr : refRead lb with
      | none =>
        rw [hrr] at hR HL3
        have HL : Hid (domLine p nm lb x0 x1 x2 = (3, p)) := HL3
        clear HL3
        simp only [labL, labC, labE] at hR
        go_enter Tryd.func57, Tryd.ntmps57
        go_wp2_with fail
        refine wp_region_quiet_below (by kernel_rfl) (by kernel_rfl) ?_
        repeat (first | go_big_quiet_skip | quiet_step (first | (go_at_call 45; exact Calls.regrown_of (HM.out _)) | (go_at_call 46; exact Calls.regrown_of (HD.out _ ((below1 _ _).trans ((below_regrown _ _ _).mono (by simp)))))))
        refine wpQuiet_nil ?_
        intro w1 hw'
        have hb1 := below_of_regrown hw'
        clear hw'
        have hB1 : Below w.heap.size w w1 := (below1 _ _).trans (hb1.mono (by simp))
        have hk1 : w1.heap[w.heap.size]? = some (.cells #[.string nm, .int .i64 0, .int .i64 0, .int .i64 0, .int .i64 0, .int .i64 0] 37 (0, 0)) := (hb1.block _ (by simp)).trans (alloc_at _ _)
        have hz1 : w.heap.size < w1.heap.size := (Array.getElem?_eq_some_iff.1 hk1).1
        have k1 : w1.cell? ⟨rb, ro + 1, none⟩ = some (.string lb) := by rw [hB1.cell (p := ⟨rb, ro + 1, none⟩) hrb]; exact c1
        clear hb1
        go_wp2_with fail
        refine (hR _).mono ?_
        rintro e w2 ⟨rfl, hb2⟩
        have hk2 := (hb2.block _ hz1).trans hk1
        have m1 := Lib.cell_of_heap hk2 1
        have m2 := Lib.cell_of_heap hk2 2
        have n1 := Lib.frozen_of_heap hk2 1
        have n2 := Lib.frozen_of_heap hk2 2
        have hB2 := below_next hB1 hb2
        clear hk1 hk2 hb2
        simp at m1 m2
        go_wp2
        go_ret
        rw [HL.out]
        have hB3 : Below w.heap.size w _ := (hB2.setCell (p := ⟨w.heap.size, 1, none⟩) (Nat.le_refl _) (.int .i64 0)).setCell (p := ⟨w.heap.size, 2, none⟩) (Nat.le_refl _) (.int .i64 0)
        exact ⟨rfl, ⟨_, _, _, HP.out.below hB3⟩, Below.but hB3 HP.out.le⟩
      | some lk =>
        obtain ⟨L, K⟩ := lk
        rw [hrr] at hR HL3
        have HL4 : Hid (domLine p nm lb x0 x1 x2 = match numsOf [x0, x1, x2] 3 with | some [x, y, z] => (0, { p with ds := p.ds ++ [⟨nm, (L : Int), (K : Int), (x : Int), (y : Int), (z : Int)⟩] }) | _ => (2, p)) := HL3
        clear HL3
        simp only [labL, labC, labE] at hR
        go_enter Tryd.func57, Tryd.ntmps57
        go_wp2_with fail
        refine wp_region_quiet_below (by kernel_rfl) (by kernel_rfl) ?_
        repeat (first | go_big_quiet_skip | quiet_step (first | (go_at_call 45; exact Calls.regrown_of (HM.out _)) | (go_at_call 46; exact Calls.regrown_of (HD.out _ ((below1 _ _).trans ((below_regrown _ _ _).mono (by simp)))))))
        refine wpQuiet_nil ?_
        intro w1 hw'
        have hb1 := below_of_regrown hw'
        clear hw'
        have hB1 : Below w.heap.size w w1 := (below1 _ _).trans (hb1.mono (by simp))
        have hk1 : w1.heap[w.heap.size]? = some (.cells #[.string nm, .int .i64 0, .int .i64 0, .int .i64 0, .int .i64 0, .int .i64 0] 37 (0, 0)) := (hb1.block _ (by simp)).trans (alloc_at _ _)
        have hz1 : w.heap.size < w1.heap.size := (Array.getElem?_eq_some_iff.1 hk1).1
        have k1 : w1.cell? ⟨rb, ro + 1, none⟩ = some (.string lb) := by rw [hB1.cell (p := ⟨rb, ro + 1, none⟩) hrb]; exact c1
        clear hb1
        go_wp2_with fail
        refine (hR _).mono ?_
        rintro e w2 ⟨rfl, hb2⟩
        have hk2 := (hb2.block _ hz1).trans hk1
        have m1 := Lib.cell_of_heap hk2 1
        have m2 := Lib.cell_of_heap hk2 2
        have n1 := Lib.frozen_of_heap hk2 1
        have n2 := Lib.frozen_of_heap hk2 2
        have hB2 := below_next hB1 hb2
        have hk3 := dom_lab (y' := .int .i64 (L : Int)) (z' := .int .i64 (K : Int)) hk2
        have HK3 : Hid (((w2.setCell ⟨w.heap.size, 1, none⟩ (.int .i64 (L : Int))).setCell ⟨w.heap.size, 2, none⟩ (.int .i64 (K : Int))).heap[w.heap.size]? = some (.cells #[.string nm, .int .i64 (L : Int), .int .i64 (K : Int), .int .i64 0, .int .i64 0, .int .i64 0] 37 (0, 0))) := hk3
        have hB3 : Below w.heap.size w ((w2.setCell ⟨w.heap.size, 1, none⟩ (.int .i64 (L : Int))).setCell ⟨w.heap.size, 2, none⟩ (.int .i64 (K : Int))) := (hB2.setCell (p := ⟨w.heap.size, 1, none⟩) (Nat.le_refl _) (.int .i64 L)).setCell (p := ⟨w.heap.size, 2, none⟩) (Nat.le_refl _) (.int .i64 K)
        have hsz3 : ((w2.setCell ⟨w.heap.size, 1, none⟩ (.int .i64 (L : Int))).setCell ⟨w.heap.size, 2, none⟩ (.int .i64 (K : Int))).heap.size = w2.heap.size := by simp [World.setCell]
        have hz2 : w.heap.size < w2.heap.size := (Array.getElem?_eq_some_iff.1 hk2).1
        have q0 := (hB3.cell (p := ⟨rb, ro + 2, none⟩) hrb).trans c2
        have q1 := (hB3.cell (p := ⟨rb, ro + 3, none⟩) hrb).trans c3
        have q2 := (hB3.cell (p := ⟨rb, ro + 4, none⟩) hrb).trans c4
        have hN := fun (W : World) h1 h2 h3 h4 h5 h6 h7 => numbers_any rb (ro + 2) 3 (cap - 2) 3 w2.heap.size w.heap.size 3 [x0, x1, x2] #[.string nm, .int .i64 (L : Int), .int .i64 (K : Int), .int .i64 0, .int .i64 0, .int .i64 0] 37 W rfl (Nat.le_refl _) (by omega) h1 h2 h3 h4 h5 h6 h7 (Nat.le_refl _)
        obtain ⟨W3, hW3⟩ : ∃ W3, W3 = (w2.setCell ⟨w.heap.size, 1, none⟩ (.int .i64 (L : Int))).setCell ⟨w.heap.size, 2, none⟩ (.int .i64 (K : Int)) := ⟨_, rfl⟩
        rw [← hW3] at HK3 hB3 hsz3 q0 q1 q2
        have HW3 : Hid (W3 = (w2.setCell ⟨w.heap.size, 1, none⟩ (.int .i64 (L : Int))).setCell ⟨w.heap.size, 2, none⟩ (.int .i64 (K : Int))) := hW3
        have hw : ∀ (o : Obj), ∀ j x, [x0, x1, x2][j]? = some x → (W3.alloc o).cell? ⟨rb, ro + 2 + j, none⟩ = some (.string x) := fun o j x hj => by
          rw [World.cell?_alloc_past _ _ _ (by have := hB3.size; omega)]
          match j, hj with
          | 0, hj => simp at hj; subst hj; exact q0
          | 1, hj => simp at hj; subst hj; exact q1
          | 2, hj => simp at hj; subst hj; exact q2
          | (j + 3), hj => simp at hj
        clear hk1 hk2 hb2 hk3 hW3
        simp at m1 m2
        rcases nums_three x0 x1 x2 with hn | ⟨x, y, z, hn⟩
        · rw [hn] at hN HL4
          have HL : Hid (domLine p nm lb x0 x1 x2 = (2, p)) := HL4.out
          go_wp2_with fail
          rw [← HW3.out]
          refine (hN _ (hw _) (by simp; omega) (by omega) (three_ptrs hsz3) (by simp; omega) (by omega) ((Lib.alloc_old _ _ _ (by rw [hsz3]; omega)).trans HK3.out)).mono ?_
          rintro e w4 ⟨rfl, hg, _⟩
          have hB4 : Below w.heap.size w w4 := (hB3.alloc (by omega) _).grown hg (by simp; omega) (fun k hk => by injection hk with hk; omega)
          go_wp2
          go_ret
          rw [HL.out]
          exact ⟨rfl, ⟨_, _, _, HP.out.below hB4⟩, Below.but hB4 HP.out.le⟩
        · rw [hn] at hN HL4
          have HL : Hid (domLine p nm lb x0 x1 x2 = (0, { p with ds := p.ds ++ [⟨nm, (L : Int), (K : Int), (x : Int), (y : Int), (z : Int)⟩] })) := HL4.out
          go_wp2_with fail
          rw [← HW3.out]
          refine (hN _ (hw _) (by simp; omega) (by omega) (three_ptrs hsz3) (by simp; omega) (by omega) ((Lib.alloc_old _ _ _ (by rw [hsz3]; omega)).trans HK3.out)).mono ?_
          rintro e w4 ⟨rfl, hg, hbk2⟩
          have hB4 : Below w.heap.size w w4 := (hB3.alloc (by omega) _).grown hg (by simp; omega) (fun k hk => by injection hk with hk; omega)
          have hbk3 := hbk2 _ rfl
          have hsz4 : w.heap.size < w4.heap.size := (Array.getElem?_eq_some_iff.1 hbk3).1
          have y0 : w4.cell? ⟨w.heap.size, 0, none⟩ = some (.string nm) := Lib.cell_of_heap hbk3 0
          have y1 : w4.cell? ⟨w.heap.size, 1, none⟩ = some (.int .i64 (L : Int)) := Lib.cell_of_heap hbk3 1
          have y2 : w4.cell? ⟨w.heap.size, 2, none⟩ = some (.int .i64 (K : Int)) := Lib.cell_of_heap hbk3 2
          have y3 : w4.cell? ⟨w.heap.size, 3, none⟩ = some (.int .i64 (x : Int)) := Lib.cell_of_heap hbk3 3
          have y4 : w4.cell? ⟨w.heap.size, 4, none⟩ = some (.int .i64 (y : Int)) := Lib.cell_of_heap hbk3 4
          have y5 : w4.cell? ⟨w.heap.size, 5, none⟩ = some (.int .i64 (z : Int)) := Lib.cell_of_heap hbk3 5
          have hP4 := HP.out.below hB4
          obtain ⟨z0, z1, z2, g0, g1, g2⟩ := blk_cells hP4.blk
          have hBz : B < w4.heap.size := by have := hB4.size; omega
          have hO := hP4.d
          have hle := hP4.le
          have hne : v1.ownBlock ≠ some B := fun e => by have := (hO.lt _ e).1; have := hP4.lt; omega
          have HP4 : Hid (PAt w4 B base v1 v2 v3 p) := hP4
          clear hg hbk2 hbk3 hP4 hN hw HK3 HP HL4 hB3 hB1 hB2 b0 b1 b2 f0 f1 f2 z1 z2 g1 g2 c0 c1 c2 c3 c4 q0 q1 q2 k1 m1 m2 n1 n2 HW3 hsz3 hz1 hz2 HD HM hR
          generalize (L : Int) = LI at *
          generalize (K : Int) = KI at *
          go_wp2_with fail
          go_region_law
            ((refine step_append_lies _ (by rfl) _ _ _ (by rfl) base 37 i0 _ 6 56 Tryd.underlying22 hi hz0 hz1' hz2' rfl (by omega) v1 p.ds.length (cellsD p.ds) (by rfl) ((hO.alloc _).drew)
                ⟨w4.heap.size, 0, none⟩ 1 1 [.string nm, .int .i64 LI, .int .i64 KI, .int .i64 (x : Int), .int .i64 (y : Int), .int .i64 (z : Int)] (by rfl) (by rfl) (World.news_of_block (cs := #[.string nm, .int .i64 LI, .int .i64 KI, .int .i64 (x : Int), .int .i64 (y : Int), .int .i64 (z : Int)]) (t := 37) (fr := (0, 0)) (heap_alloc_new w4 _)) (ones6 _ _ _ _ _ _)
                (by omega) (by unfold maxLen; omega) (by omega) (by simp; omega) (w4.heap.size + 1) (by simp) ?_; intro gg cap' w5 hown5 hgrow hat hlt5; have xf := (hgrow.frozen_far ⟨B, 0, none⟩ (by simp; omega) (Ne.symm hne)).trans ((World.frozen?_of_block (w := w4) (Lib.alloc_old _ _ _ hBz)).trans g0); have xc := (hgrow.cell_far ⟨B, 0, none⟩ (by simp; omega) (Ne.symm hne)).trans ((World.cell?_of_block (w := w4) (Lib.alloc_old _ _ _ hBz)).trans z0)))
          all_goals
            have hS := put_dom (x := ⟨nm, LI, KI, (x : Int), (y : Int), (z : Int)⟩) (HP4.out.below (drawn_below _)) hown5 hgrow
            clear hown5 hgrow xf xc
            go_wp2
            go_ret
            rw [HL.out]
            exact ⟨rfl, ⟨_, _, _, hS.1⟩, (Below.but hB4 (by omega)).trans ((Below.but (drawn_below _) (by omega)).trans hS.2)⟩

end Go.Proofs.YtmhjoomkeidcaaaDoor
