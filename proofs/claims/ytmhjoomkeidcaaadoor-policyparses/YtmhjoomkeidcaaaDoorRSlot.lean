/-
  What policy.readSlot comes to: the line of a slot.
-/
import Derived.Test.YtmhjoomkeidcaaaDoorLine
import Derived.Deep.RegionHeld3
import Derived.Deep.DeepCutAuto
import Derived.Deep.RegionLaw
import Derived.Deep.DrawnRows
namespace Go.Proofs.YtmhjoomkeidcaaaDoor
open Go.RowKit L2
attribute [local go_sem ↓] Go.wp_at_zero Go.wp_at_succ

theorem info39 : (Tryd.prog.info? 39).map (fun i => (i.zero, i.size, i.bytes)) = some (some (.agg #[.int .i64 0, .int .i64 0]), 2, 16) := by kernel_rfl

/-- What a region reads stays where the old blocks stay. -/
theorem keep2 {w w' : World} {B rb ro : Nat} {x y : Value} (hB : B < w.heap.size) (hr : rb < w.heap.size) (c0 : w.cell? ⟨B, 0, none⟩ = some x) (c1 : w.cell? ⟨rb, ro, none⟩ = some y) (h : Below w.heap.size w w') :
    Below w.heap.size w w' ∧ w'.cell? ⟨B, 0, none⟩ = some x ∧ w'.cell? ⟨rb, ro, none⟩ = some y :=
  ⟨h, (h.cell (p := ⟨B, 0, none⟩) hB).trans c0, (h.cell (p := ⟨rb, ro, none⟩) hr).trans c1⟩

/-- A block of two cells, both of which are laid anew. -/
theorem two_laid {w : World} {b : Nat} {x y u v : Value} {T : TypeId} (h : w.heap[b]? = some (.cells #[x, y] T (0, 0))) : ((w.setCell ⟨b, 0, none⟩ u).setCell ⟨b, 1, none⟩ v).heap[b]? = some (.cells #[u, v] T (0, 0)) :=
  Lib.heap_setCell_same (Lib.heap_setCell_same h u) v
theorem ones2 (a b : Int) : ∀ u ∈ [Value.int .i64 a, .int .i64 b], u.oneCell' = true := by
  intro u hu
  simp at hu
  rcases hu with rfl | rfl <;> rfl
theorem left_of {A R : Prop} (h : A ∧ R) : A := h.1
theorem call_keep {w a b : World} {R : Prop} (H : Below w.heap.size w a ∧ R) (k : Below a.heap.size a b) : Below w.heap.size w b := below_next H.1 k

set_option maxHeartbeats 4000000 in
set_option maxRecDepth 100000 in
theorem readSlot_any (B base rb ro cap : Nat) (v1 v2 v3 : Value) (p : Pol) (nm a : ByteArray) (w : World) (hP : PAt w B base v1 v2 v3 p) (hl : p.ds.length ≤ 5000) (hl2 : p.ss.length ≤ 5000)
    (c0 : w.cell? ⟨rb, ro, none⟩ = some (.string nm)) (c1 : w.cell? ⟨rb, ro + 1, none⟩ = some (.string a)) (hrb : rb < w.heap.size) (hcap : 2 ≤ cap) :
    Calls Tryd.prog 58 #[.pointer (some ⟨B, 0, none⟩), .slice (some ⟨rb, ro, none⟩) 2 cap] w fun e w' =>
      e = .returned (.int .i64 ((slotLine p nm a).1 : Nat)) ∧ (∃ v1 v2 v3, PAt w' B base v1 v2 v3 (slotLine p nm a).2) ∧ But B base w w' := by
  obtain ⟨i0, hi, hz0, hz1, hz2⟩ := info_parts info39
  have hBl : B < w.heap.size := by have := hP.lt; have := hP.le; omega
  have hbw := hP.le
  obtain ⟨b0, b1, b2, f0, f1, f2⟩ := blk_cells hP.blk
  obtain ⟨a1, a2, a3, c1', c2', c3', e1, e2, e3, hh⟩ := hP.held
  have HP : Hid (PAt w B base v1 v2 v3 p) := hP
  have HD : Hid (∀ W, Below w.heap.size w W → Calls Tryd.prog 46 #[.slice a1 p.ds.length c1', .string nm] W fun e w' => e = .returned (.int .i64 (placeOf p.ds nm)) ∧ Below W.heap.size W w') := fun W hW =>
    place_any a1 p.ds.length c1' p.ds nm W rfl hl (hh.below hW).d
  clear hh hP
  have HE1 : Hid (v1 = .slice a1 p.ds.length c1') := e1
  rw [e1] at b0
  clear e1 e2 e3
  generalize hpl : placeOf p.ds nm = pl at HD
  have HPL : Hid (placeOf p.ds nm = pl) := hpl
  clear hpl
  have hkp := fun w' h => keep2 (w := w) (w' := w') hBl hrb b0 c0 h
  go_enter Tryd.func58, Tryd.ntmps58
  go_wp2_with fail
  go_cut [5] (fun s5 w' => ∃ bd : Nat, s5 = .pointer (some ⟨bd, 0, none⟩) ∧ w.heap.size ≤ bd ∧ w'.heap[bd]? = some (.cells #[.int .i64 pl, .int .i64 0] 39 (0, 0)) ∧ Below w.heap.size w w')
  case first =>
    go_region_held3 (fun w' => Below w.heap.size w w' ∧ w'.cell? ⟨B, 0, none⟩ = some (.slice a1 p.ds.length c1') ∧ w'.cell? ⟨rb, ro, none⟩ = some (.string nm))
      ((refine hkp _ ?_; repeat (first | assumption | exact Below.refl _ _ | refine Below.alloc ?_ (by first | exact Nat.le_refl _ | omega | (simp <;> omega)) _ | refine Below.setCell ?_ (by first | omega | (simp <;> omega)) _ | refine Below.drew ?_)))
      (first | (go_at_call 46; refine (HD.out _ (left_of (by assumption))).mono ?_; rintro e w1 ⟨rfl, hb⟩; have hB1 := call_keep (by assumption) hb; obtain ⟨hc, hf⟩ := bcell hb; have hz := hb.size; (try simp at hz); (try (have _k : w.heap.size < w1.heap.size := by omega)); (try (have _k : ¬ w.heap.size = w1.heap.size := by omega)); (try (have _k : ¬ w1.heap.size = w.heap.size := by omega))))
    all_goals
      go_wp2_with fail
      go_meet
      first
        | exact ⟨w1.heap.size, rfl, by omega, alloc_at _ _, hB1.alloc (by omega) _⟩
        | exact ⟨w.heap.size, rfl, Nat.le_refl _, two_laid ((hb.block w.heap.size (by simp)).trans (alloc_at _ _)), (hB1.setCell (Nat.le_refl _) _).setCell (Nat.le_refl _) _⟩
  case rest =>
    clear hkp HD b0
    obtain ⟨bd, rfl, hbd, hblk, hB⟩ := hcut
    have d0 : wc.cell? ⟨bd, 0, none⟩ = some (.int .i64 pl) := Lib.cell_of_heap hblk 0
    have hbl : bd < wc.heap.size := (Array.getElem?_eq_some_iff.1 hblk).1
    have HBK : Hid (wc.heap[bd]? = some (.cells #[.int .i64 pl, .int .i64 0] 39 (0, 0))) := hblk
    clear hblk
    by_cases hp0 : pl < 0
    · have HL : Hid (slotLine p nm a = (4, p)) := if_pos (by rw [HPL.out]; exact hp0)
      go_wp2
      go_ret
      rw [HL.out]
      exact ⟨rfl, ⟨_, _, _, HP.out.below hB⟩, Below.but hB HP.out.le⟩
    · have hN := fun (W : World) h1 h2 h3 h4 h5 h6 h7 => numbers_any rb (ro + 1) 1 (cap - 1) 1 wc.heap.size bd 1 [a] #[.int .i64 pl, .int .i64 0] 39 W rfl (Nat.le_refl _) (by omega) h1 h2 h3 h4 h5 h6 h7 (Nat.le_refl _)
      have hc1 : wc.cell? ⟨rb, ro + 1, none⟩ = some (.string a) := by rw [hB.cell (p := ⟨rb, ro + 1, none⟩) hrb]; exact c1
      have hcz := hB.size
      have hw : ∀ (o : Obj), ∀ j x, [a][j]? = some x → (wc.alloc o).cell? ⟨rb, ro + 1 + j, none⟩ = some (.string x) := fun o j x hj => by
        match j, hj with
        | 0, hj => simp at hj; subst hj; rw [World.cell?_alloc_past _ _ _ (by omega)]; exact hc1
      have HL4 : Hid (slotLine p nm a = match numsOf [a] 1 with | some [x] => (0, { p with ss := p.ss ++ [⟨pl, (x : Int)⟩] }) | _ => (2, p)) := by
        unfold slotLine
        rw [HPL.out, if_neg hp0]; exact rfl
      rcases nums_one a with hn | ⟨x, hn⟩
      · rw [hn] at hN HL4
        have HL : Hid (slotLine p nm a = (2, p)) := HL4.out
        go_wp2_with fail
        refine (hN _ (hw _) (by simp; omega) (by omega) (fun j hj => by obtain rfl : j = 0 := by omega
                                                                        simp [go_sem]) (by simp) (by omega) ((Lib.alloc_old _ _ _ hbl).trans HBK.out)).mono ?_
        rintro e w2 ⟨rfl, hg, _⟩
        have hB2 : Below w.heap.size w w2 := (hB.alloc hcz _).grown hg (by simp; omega) (fun k hk => by injection hk with hk; omega)
        go_wp2
        go_ret
        rw [HL.out]
        exact ⟨rfl, ⟨_, _, _, HP.out.below hB2⟩, Below.but hB2 HP.out.le⟩
      · rw [hn] at hN HL4
        have HL : Hid (slotLine p nm a = (0, { p with ss := p.ss ++ [⟨pl, (x : Int)⟩] })) := HL4.out
        go_wp2_with fail
        refine (hN _ (hw _) (by simp; omega) (by omega) (fun j hj => by obtain rfl : j = 0 := by omega
                                                                        simp [go_sem]) (by simp) (by omega) ((Lib.alloc_old _ _ _ hbl).trans HBK.out)).mono ?_
        rintro e w2 ⟨rfl, hg, hbk2⟩
        have hB2 : Below w.heap.size w w2 := (hB.alloc hcz _).grown hg (by simp; omega) (fun k hk => by injection hk with hk; omega)
        have hbk3 := hbk2 _ rfl
        have hsz2 : bd < w2.heap.size := (Array.getElem?_eq_some_iff.1 hbk3).1
        have y0 : w2.cell? ⟨bd, 0, none⟩ = some (.int .i64 pl) := Lib.cell_of_heap hbk3 0
        have y1 : w2.cell? ⟨bd, 1, none⟩ = some (.int .i64 (x : Int)) := Lib.cell_of_heap hbk3 1
        have hP2 := HP.out.below hB2
        obtain ⟨z0, z1, z2, g0, g1, g2⟩ := blk_cells hP2.blk
        have hBz : B < w2.heap.size := by have := hB2.size; omega
        have hO := hP2.s
        have hle := hP2.le
        have hne : v2.ownBlock ≠ some B := fun e => by have := (hO.lt _ e).1; have := hP2.lt; omega
        have hne2 : v2.ownBlock ≠ some bd := fun e => by have := (HP.out.s.lt _ e).2; omega
        have HP2 : Hid (PAt w2 B base v1 v2 v3 p) := hP2
        clear hg hbk2 hbk3 hP2 hN hw hc1 HBK HP HL4 d0 hbl hB b1 b2 f0 f1 f2 z0 z2 g0 g2 c0 c1
        go_wp2_with fail
        go_region_law
          ((refine step_append_lies _ (by rfl) _ _ _ (by rfl) base 39 i0 _ 2 16 Tryd.underlying23 hi hz0 hz1 hz2 rfl (by omega) v2 p.ss.length (cellsS p.ss) (by rfl) ((hO.alloc _).drew)
              ⟨w2.heap.size, 0, none⟩ 1 1 [.int .i64 pl, .int .i64 (x : Int)] (by rfl) (by rfl) (World.news_of_block (cs := #[.int .i64 pl, .int .i64 (x : Int)]) (t := 39) (fr := (0, 0)) (heap_alloc_new w2 _)) (ones2 _ _)
              (by omega) (by unfold maxLen; omega) (by omega) (by simp; omega) (w2.heap.size + 1) (by simp) ?_; intro gg cap' w5 hown5 hgrow hat hlt5; have xf := (hgrow.frozen_far ⟨B, 1, none⟩ (by simp; omega) (Ne.symm hne)).trans ((World.frozen?_of_block (w := w2) (Lib.alloc_old _ _ _ hBz)).trans g1); have xc := (hgrow.cell_far ⟨B, 1, none⟩ (by simp; omega) (Ne.symm hne)).trans ((World.cell?_of_block (w := w2) (Lib.alloc_old _ _ _ hBz)).trans z1)))
        all_goals
          have hS := put_slot (x := ⟨pl, (x : Int)⟩) (HP2.out.below (drawn_below _)) hown5 hgrow
          clear hown5 hgrow xf xc
          go_wp2
          go_ret
          rw [HL.out]
          exact ⟨rfl, ⟨_, _, _, hS.1⟩, (Below.but hB2 (by omega)).trans ((Below.but (drawn_below _) (by omega)).trans hS.2)⟩

end Go.Proofs.YtmhjoomkeidcaaaDoor
