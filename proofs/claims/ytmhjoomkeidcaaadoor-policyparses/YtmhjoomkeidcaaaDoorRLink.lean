/-
  What policy.readLink comes to: the line of a link.
-/
import Derived.Test.YtmhjoomkeidcaaaDoorRSlot
namespace Go.Proofs.YtmhjoomkeidcaaaDoor
open Go.RowKit L2
attribute [local go_sem ↓] Go.wp_at_zero Go.wp_at_succ

theorem info32 : (Tryd.prog.info? 32).map (fun i => (i.zero, i.size, i.bytes)) = some (some (.agg #[.int .i64 0, .int .i64 0, .int .i64 0, .int .i64 0]), 4, 32) := by kernel_rfl

theorem keep3 {w w' : World} {B rb ro : Nat} {x y z : Value} (hB : B < w.heap.size) (hr : rb < w.heap.size) (c0 : w.cell? ⟨B, 0, none⟩ = some x) (c1 : w.cell? ⟨rb, ro, none⟩ = some y) (c2 : w.cell? ⟨rb, ro + 1, none⟩ = some z) (h : Below w.heap.size w w') :
    Below w.heap.size w w' ∧ w'.cell? ⟨B, 0, none⟩ = some x ∧ w'.cell? ⟨rb, ro, none⟩ = some y ∧ w'.cell? ⟨rb, ro + 1, none⟩ = some z :=
  ⟨h, (h.cell (p := ⟨B, 0, none⟩) hB).trans c0, (h.cell (p := ⟨rb, ro, none⟩) hr).trans c1, (h.cell (p := ⟨rb, ro + 1, none⟩) hr).trans c2⟩
theorem four_laid {w : World} {b : Nat} {x y z v a b' c d : Value} {T : TypeId} (h : w.heap[b]? = some (.cells #[x, y, z, v] T (0, 0))) : ((((w.setCell ⟨b, 0, none⟩ a).setCell ⟨b, 1, none⟩ b').setCell ⟨b, 2, none⟩ c).setCell ⟨b, 3, none⟩ d).heap[b]? = some (.cells #[a, b', c, d] T (0, 0)) :=
  Lib.heap_setCell_same (Lib.heap_setCell_same (Lib.heap_setCell_same (Lib.heap_setCell_same h a) b') c) d
theorem ones4 (a b c d : Int) : ∀ u ∈ [Value.int .i64 a, .int .i64 b, .int .i64 c, .int .i64 d], u.oneCell' = true := by
  intro u hu
  simp at hu
  rcases hu with rfl | rfl | rfl | rfl <;> rfl

set_option maxHeartbeats 4000000 in
set_option maxRecDepth 100000 in
theorem readLink_any (B base rb ro cap : Nat) (kd : Int) (v1 v2 v3 : Value) (p : Pol) (nm nm2 a : ByteArray) (w : World) (hP : PAt w B base v1 v2 v3 p) (hl : p.ds.length ≤ 5000) (hl2 : p.ls.length ≤ 5000)
    (c0 : w.cell? ⟨rb, ro, none⟩ = some (.string nm)) (c1 : w.cell? ⟨rb, ro + 1, none⟩ = some (.string nm2)) (c2 : w.cell? ⟨rb, ro + 2, none⟩ = some (.string a)) (hrb : rb < w.heap.size) (hcap : 3 ≤ cap) :
    Calls Tryd.prog 59 #[.pointer (some ⟨B, 0, none⟩), .int .i64 kd, .slice (some ⟨rb, ro, none⟩) 3 cap] w fun e w' =>
      e = .returned (.int .i64 ((linkLine p kd nm nm2 a).1 : Nat)) ∧ (∃ v1 v2 v3, PAt w' B base v1 v2 v3 (linkLine p kd nm nm2 a).2) ∧ But B base w w' := by
  obtain ⟨i0, hi, hz0, hz1, hz2⟩ := info_parts info32
  have hBl : B < w.heap.size := by have := hP.lt; have := hP.le; omega
  have hbw := hP.le
  obtain ⟨b0, b1, b2, f0, f1, f2⟩ := blk_cells hP.blk
  obtain ⟨a1, a2, a3, c1', c2', c3', e1, e2, e3, hh⟩ := hP.held
  have HP : Hid (PAt w B base v1 v2 v3 p) := hP
  have HD : Hid (∀ nm W, Below w.heap.size w W → Calls Tryd.prog 46 #[.slice a1 p.ds.length c1', .string nm] W fun e w' => e = .returned (.int .i64 (placeOf p.ds nm)) ∧ Below W.heap.size W w') := fun nm W hW =>
    place_any a1 p.ds.length c1' p.ds nm W rfl hl (hh.below hW).d
  clear hh hP
  rw [e1] at b0
  clear e1 e2 e3
  have HD1 : Hid (∀ W, Below w.heap.size w W → Calls Tryd.prog 46 #[.slice a1 p.ds.length c1', .string nm] W fun e w' => e = .returned (.int .i64 (placeOf p.ds nm)) ∧ Below W.heap.size W w') := HD.out nm
  have HD2 : Hid (∀ W, Below w.heap.size w W → Calls Tryd.prog 46 #[.slice a1 p.ds.length c1', .string nm2] W fun e w' => e = .returned (.int .i64 (placeOf p.ds nm2)) ∧ Below W.heap.size W w') := HD.out nm2
  clear HD
  generalize hpl : placeOf p.ds nm = pl at HD1
  generalize hpl2 : placeOf p.ds nm2 = pl2 at HD2
  have HPL : Hid (placeOf p.ds nm = pl ∧ placeOf p.ds nm2 = pl2) := ⟨hpl, hpl2⟩
  clear hpl hpl2
  have hkp := fun w' h => keep3 (w := w) (w' := w') hBl hrb b0 c0 c1 h
  go_enter Tryd.func59, Tryd.ntmps59
  go_wp2_with fail
  go_cut [7] (fun s5 w' => ∃ bd : Nat, s5 = .pointer (some ⟨bd, 0, none⟩) ∧ w.heap.size ≤ bd ∧ w'.heap[bd]? = some (.cells #[.int .i64 kd, .int .i64 pl, .int .i64 pl2, .int .i64 0] 32 (0, 0)) ∧ Below w.heap.size w w')
  case first =>
    go_region_held3 (fun w' => Below w.heap.size w w' ∧ w'.cell? ⟨B, 0, none⟩ = some (.slice a1 p.ds.length c1') ∧ w'.cell? ⟨rb, ro, none⟩ = some (.string nm) ∧ w'.cell? ⟨rb, ro + 1, none⟩ = some (.string nm2))
      ((refine hkp _ ?_; repeat (first | assumption | exact Below.refl _ _ | refine Below.alloc ?_ (by first | exact Nat.le_refl _ | omega | (simp <;> omega)) _ | refine Below.setCell ?_ (by first | omega | (simp <;> omega)) _ | refine Below.drew ?_)))
      (first
        | (go_at_call 46; refine (HD1.out _ (left_of (by assumption))).mono ?_; rintro e w1 ⟨rfl, hb⟩; have hB1 := call_keep (by assumption) hb; obtain ⟨hc, hf⟩ := bcell hb; have hz := hb.size; (try simp at hz); (try (have _k : w.heap.size < w1.heap.size := by omega)); (try (have _k : ¬ w.heap.size = w1.heap.size := by omega)); (try (have _k : ¬ w1.heap.size = w.heap.size := by omega)))
        | (go_at_call 46; refine (HD2.out _ (left_of (by assumption))).mono ?_; rintro e w3 ⟨rfl, hb3⟩; have hB3 := call_keep (by assumption) hb3; obtain ⟨hc3, hf3⟩ := bcell hb3; have hz3 := hb3.size; (try simp at hz3); (try (have _k : w.heap.size < w3.heap.size := by omega)); (try (have _k : ¬ w.heap.size = w3.heap.size := by omega)); (try (have _k : ¬ w3.heap.size = w.heap.size := by omega)); (try (have _k : w1.heap.size < w3.heap.size := by omega))))
    all_goals
      go_wp2_with fail
      go_meet
      refine ⟨_, rfl, ?_, ?_, ?_⟩
      · first | exact Nat.le_refl _ | omega
      · first
          | with_reducible exact alloc_at _ _
          | ((with_reducible refine four_laid (x := .int .i64 0) (y := .int .i64 0) (z := .int .i64 0) (v := .int .i64 0) ?_)
             first
               | with_reducible exact (hb3.block w1.heap.size (by simp)).trans (alloc_at _ _)
               | ((with_reducible refine (hb3.block w.heap.size (by assumption)).trans ((hb.block w.heap.size (by simp)).trans ?_)); exact alloc_at w (.cells #[.int .i64 0, .int .i64 0, .int .i64 0, .int .i64 0] 32)))
      · repeat (first | with_reducible assumption | refine Below.alloc ?_ (by omega) _ | refine Below.setCell ?_ (by first | exact Nat.le_refl _ | (simp only; omega)) _)
  case rest =>
    clear hkp HD1 HD2 b0
    obtain ⟨bd, rfl, hbd, hblk, hB⟩ := hcut
    have d1 : wc.cell? ⟨bd, 1, none⟩ = some (.int .i64 pl) := Lib.cell_of_heap hblk 1
    have d2 : wc.cell? ⟨bd, 2, none⟩ = some (.int .i64 pl2) := Lib.cell_of_heap hblk 2
    have hbl : bd < wc.heap.size := (Array.getElem?_eq_some_iff.1 hblk).1
    have HBK : Hid (wc.heap[bd]? = some (.cells #[.int .i64 kd, .int .i64 pl, .int .i64 pl2, .int .i64 0] 32 (0, 0))) := hblk
    clear hblk
    by_cases hp0 : pl < 0
    · have HL : Hid (linkLine p kd nm nm2 a = (4, p)) := if_pos (by rw [HPL.out.1]; exact Or.inl hp0)
      go_wp2
      go_ret
      rw [HL.out]
      exact ⟨rfl, ⟨_, _, _, HP.out.below hB⟩, Below.but hB HP.out.le⟩
    · by_cases hp2 : pl2 < 0
      · have HL : Hid (linkLine p kd nm nm2 a = (4, p)) := if_pos (by rw [HPL.out.2]; exact Or.inr hp2)
        go_wp2
        go_ret
        rw [HL.out]
        exact ⟨rfl, ⟨_, _, _, HP.out.below hB⟩, Below.but hB HP.out.le⟩
      · have hN := fun (W : World) h1 h2 h3 h4 h5 h6 h7 => numbers_any rb (ro + 2) 1 (cap - 2) 1 wc.heap.size bd 3 [a] #[.int .i64 kd, .int .i64 pl, .int .i64 pl2, .int .i64 0] 32 W rfl (Nat.le_refl _) (by omega) h1 h2 h3 h4 h5 h6 h7 (Nat.le_refl _)
        have hc1 : wc.cell? ⟨rb, ro + 2, none⟩ = some (.string a) := by rw [hB.cell (p := ⟨rb, ro + 2, none⟩) hrb]; exact c2
        have hcz := hB.size
        have hw : ∀ (o : Obj), ∀ j x, [a][j]? = some x → (wc.alloc o).cell? ⟨rb, ro + 2 + j, none⟩ = some (.string x) := fun o j x hj => by
          match j, hj with
          | 0, hj => simp at hj; subst hj; rw [World.cell?_alloc_past _ _ _ (by omega)]; exact hc1
        have HL4 : Hid (linkLine p kd nm nm2 a = match numsOf [a] 1 with | some [x] => (0, { p with ls := p.ls ++ [⟨kd, pl, pl2, (x : Int)⟩] }) | _ => (2, p)) := by
          unfold linkLine
          rw [HPL.out.1, HPL.out.2, if_neg (by omega)]; exact rfl
        rcases nums_one a with hn | ⟨x, hn⟩
        · rw [hn] at hN HL4
          have HL : Hid (linkLine p kd nm nm2 a = (2, p)) := HL4.out
          go_wp2_with fail
          refine (hN _ (hw _) (by simp; omega) (by omega) (fun j hj => by obtain rfl : j = 0 := by omega
                                                                          simp [go_sem]) (by simp) (by omega) ((Lib.alloc_old _ _ _ hbl).trans HBK.out)).mono ?_
          rintro e w2 ⟨rfl, hg, _⟩
          have hB2 : Below w.heap.size w w2 := (hB.alloc hcz _).grown hg (by simp; omega) (fun k hk => by injection hk with hk; omega)
          go_wp2
          go_ret
          rw [HL.out]
          exact ⟨rfl, ⟨_, _, _, HP.out.below hB2⟩, Below.but hB2 HP.out.le⟩
        · rw [hn] at hN HL4
          have HL : Hid (linkLine p kd nm nm2 a = (0, { p with ls := p.ls ++ [⟨kd, pl, pl2, (x : Int)⟩] })) := HL4.out
          go_wp2_with fail
          refine (hN _ (hw _) (by simp; omega) (by omega) (fun j hj => by obtain rfl : j = 0 := by omega
                                                                          simp [go_sem]) (by simp) (by omega) ((Lib.alloc_old _ _ _ hbl).trans HBK.out)).mono ?_
          rintro e w2 ⟨rfl, hg, hbk2⟩
          have hB2 : Below w.heap.size w w2 := (hB.alloc hcz _).grown hg (by simp; omega) (fun k hk => by injection hk with hk; omega)
          have hbk3 := hbk2 _ rfl
          have hsz2 : bd < w2.heap.size := (Array.getElem?_eq_some_iff.1 hbk3).1
          have y0 : w2.cell? ⟨bd, 0, none⟩ = some (.int .i64 kd) := Lib.cell_of_heap hbk3 0
          have y1 : w2.cell? ⟨bd, 1, none⟩ = some (.int .i64 pl) := Lib.cell_of_heap hbk3 1
          have y2 : w2.cell? ⟨bd, 2, none⟩ = some (.int .i64 pl2) := Lib.cell_of_heap hbk3 2
          have y3 : w2.cell? ⟨bd, 3, none⟩ = some (.int .i64 (x : Int)) := Lib.cell_of_heap hbk3 3
          have hP2 := HP.out.below hB2
          obtain ⟨z0, z1, z2, g0, g1, g2⟩ := blk_cells hP2.blk
          have hBz : B < w2.heap.size := by have := hB2.size; omega
          have hO := hP2.l
          have hle := hP2.le
          have hne : v3.ownBlock ≠ some B := fun e => by have := (hO.lt _ e).1; have := hP2.lt; omega
          have HP2 : Hid (PAt w2 B base v1 v2 v3 p) := hP2
          clear hg hbk2 hbk3 hP2 hN hw hc1 HBK HP HL4 d1 d2 hbl hB b1 b2 f0 f1 f2 z0 z1 g0 g1 c0 c1 c2
          go_wp2_with fail
          go_region_law
            ((refine step_append_lies _ (by rfl) _ _ _ (by rfl) base 32 i0 _ 4 32 Tryd.underlying24 hi hz0 hz1 hz2 rfl (by omega) v3 p.ls.length (cellsL p.ls) (by rfl) ((hO.alloc _).drew)
                ⟨w2.heap.size, 0, none⟩ 1 1 [.int .i64 kd, .int .i64 pl, .int .i64 pl2, .int .i64 (x : Int)] (by rfl) (by rfl) (World.news_of_block (cs := #[.int .i64 kd, .int .i64 pl, .int .i64 pl2, .int .i64 (x : Int)]) (t := 32) (fr := (0, 0)) (heap_alloc_new w2 _)) (ones4 _ _ _ _)
                (by omega) (by unfold maxLen; omega) (by omega) (by simp; omega) (w2.heap.size + 1) (by simp) ?_; intro gg cap' w5 hown5 hgrow hat hlt5; have xf := (hgrow.frozen_far ⟨B, 2, none⟩ (by simp; omega) (Ne.symm hne)).trans ((World.frozen?_of_block (w := w2) (Lib.alloc_old _ _ _ hBz)).trans g2); have xc := (hgrow.cell_far ⟨B, 2, none⟩ (by simp; omega) (Ne.symm hne)).trans ((World.cell?_of_block (w := w2) (Lib.alloc_old _ _ _ hBz)).trans z2)))
          all_goals
            have hS := put_link (x := ⟨kd, pl, pl2, (x : Int)⟩) (HP2.out.below (drawn_below _)) hown5 hgrow
            clear hown5 hgrow xf xc
            go_wp2
            go_ret
            rw [HL.out]
            exact ⟨rfl, ⟨_, _, _, hS.1⟩, (Below.but hB2 (by omega)).trans ((Below.but (drawn_below _) (by omega)).trans hS.2)⟩

end Go.Proofs.YtmhjoomkeidcaaaDoor
