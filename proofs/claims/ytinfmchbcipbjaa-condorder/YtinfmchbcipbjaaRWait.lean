/-
  What the document's Wait comes to.
-/
import Derived.Test.YtinfmchbcipbjaaRMem
import Derived.Test.YtinfmchbcipbjaaLate
import Derived.Deep.DeepCutAuto
namespace Go.Proofs.Ytinfmchbcipbjaa
open Go.RowKit

def waitQ (q : Q) (t : Int) : Q := if t < 1 then q else if inZ (wts q) t = true then q else q ++ [(t, true)]
theorem waitQ_low {q : Q} {t : Int} (h : t < 1) : waitQ q t = q := if_pos h
theorem waitQ_in {q : Q} {t : Int} (h : ¬ t < 1) (hb : inZ (wts q) t = true) : waitQ q t = q := (if_neg h).trans (if_pos hb)
theorem waitQ_out {q : Q} {t : Int} (h : ¬ t < 1) (hb : inZ (wts q) t = false) : waitQ q t = q ++ [(t, true)] := by
  unfold waitQ
  rw [if_neg h, hb]
  rfl
theorem waitQ_len (q : Q) (t : Int) : (waitQ q t).length ≤ q.length + 1 := by
  unfold waitQ
  split
  · omega
  split
  · omega
  · simp
theorem Rep.wait {l : List Int} {q : Q} (h : Rep l q) (t : Int) : Rep (waitL l t) (waitQ q t) := by
  by_cases h1 : t < 1
  · rw [(wait_low h1).2, waitQ_low h1]; exact h
  · cases hb : inZ l t
    · rw [(wait_out h1 hb).2, waitQ_out h1 (by rw [h.wts]; exact hb)]
      exact h.snoc hb
    · rw [(wait_in h1 hb).2, waitQ_in h1 (by rw [h.wts]; exact hb)]
      exact h

set_option maxRecDepth 20000 in
set_option maxHeartbeats 4000000 in
set_option linter.unusedSimpArgs false in
theorem rwait_any (R base : Nat) (u : Vs) (q : Q) (hI : Inv q) (hl : q.length ≤ 1000) (t : Int) (w : World) (hR : AtR w R base u q) (hbs : base ≤ w.heap.size) :
    Calls Try.prog 16 #[.pointer (some ⟨R, 0, none⟩), .int .i64 t] w fun e w' => e = .returned (.int .i64 (waitE (wts q) t)) ∧ NowR R base u (waitQ q t) w w' := by
  have D := rdrop_any R base u q hI hl t w hR
  have HR := hide hR
  clear hR
  by_cases h1 : t < 1
  · rw [(wait_low h1).1, waitQ_low h1]
    clear D
    go_enter Try.func16, Try.ntmps16
    go_wp2
    go_ret
    exact ⟨rfl, NowR.same HR.out (Below.refl _ _)⟩
  · cases hb : inZ (wts q) t
    · rw [(wait_out h1 hb).1, waitQ_out h1 hb]
      rw [hb, off_none hb] at D
      have HD := hide D
      clear D hb hI
      go_enter Try.func16, Try.ntmps16
      go_wp2_with fail
      refine HD.out.mono ?_
      rintro e w2 ⟨rfl, hN⟩
      obtain ⟨u2, hR2, hV2, hW2⟩ := hN
      obtain ⟨av, ac, bv, bc, rfl⟩ := hR2.forms
      have HR2 := hide hR2
      have HV2 := hide hV2
      have HW2 := hide hW2
      have hbs2 : base ≤ w2.heap.size := Nat.le_trans hbs hV2.size
      obtain ⟨c0, c1, _⟩ := hR2.cells
      have HBc := hide (below_drewN (m := w2.heap.size) w2 1)
      clear hR2 hV2 hW2 HD HR
      go_wp2_with fail
      refine wp_region_noPanic ?_
      refine wp_region_last_drew (A := fun i => decide (i < 17) && !(i == 1 || i == 9 || i == 10 || i == 11)) (S := fun w' => w'.cell? ⟨R, 0, none⟩ = some (.slice av q.length ac) ∧ w'.cell? ⟨R, 1, none⟩ = some (.slice bv q.length bc)) (by kernel_rfl) ?_ (fun hHeld => ?_)
      · exact ⟨c0, c1⟩
      refine wpAnyL_takeP (i := 1) (v := ?_) rfl (by kernel_rfl) (by kernel_rfl) (by kernel_rfl) (by kernel_rfl) (fun _ _ _ h => h) (Or.inl ⟨by rfl, ?_⟩) ?_
      rotate_left 1
      · (intro w hSw; (try dsimp only at hSw); go_simp; all_goals with_reducible rfl)
      try simp only [Act.put, List.getElem_toArray, List.getElem_cons_zero, List.getElem_cons_succ, List.setIfInBounds_toArray, List.set_cons_zero, List.set_cons_succ]
      refine wpAnyL_takeP (i := 9) (v := ?_) rfl (by kernel_rfl) (by kernel_rfl) (by kernel_rfl) (by kernel_rfl) (fun _ _ _ h => h) (Or.inl ⟨by rfl, ?_⟩) ?_
      rotate_left 1
      · (intro w hSw; (try dsimp only at hSw); go_simp; all_goals with_reducible rfl)
      try simp only [Act.put, List.getElem_toArray, List.getElem_cons_zero, List.getElem_cons_succ, List.setIfInBounds_toArray, List.set_cons_zero, List.set_cons_succ]
      refine wpAnyL_takeP (i := 10) (v := ?_) rfl (by kernel_rfl) (by kernel_rfl) (by kernel_rfl) (by kernel_rfl) (fun _ _ _ h => h) (Or.inl ⟨by rfl, ?_⟩) ?_
      rotate_left 1
      · (intro w hSw; (try dsimp only at hSw); go_simp; all_goals with_reducible rfl)
      try simp only [Act.put, List.getElem_toArray, List.getElem_cons_zero, List.getElem_cons_succ, List.setIfInBounds_toArray, List.set_cons_zero, List.set_cons_succ]
      refine wpAnyL_takeP (i := 11) (v := ?_) rfl (by kernel_rfl) (by kernel_rfl) (by kernel_rfl) (by kernel_rfl) (fun _ _ _ h => h) (Or.inl ⟨by rfl, ?_⟩) ?_
      rotate_left 1
      · (intro w hSw; (try dsimp only at hSw); go_simp; all_goals with_reducible rfl)
      try simp only [Act.put, List.getElem_toArray, List.getElem_cons_zero, List.getElem_cons_succ, List.setIfInBounds_toArray, List.set_cons_zero, List.set_cons_succ]
      refine wpAnyL_take (i := 0) (v := ?_) rfl (by kernel_rfl) (by kernel_rfl) (by kernel_rfl) (by kernel_rfl) (fun _ _ _ h => h) (Or.inl ⟨by rfl, ?_⟩) (by first | trivial | assumption) ?_
      rotate_left 1
      · (intro w hSw; (try dsimp only at hSw); go_simp; all_goals with_reducible rfl)
      try simp only [Act.put, List.getElem_toArray, List.getElem_cons_zero, List.getElem_cons_succ, List.setIfInBounds_toArray, List.set_cons_zero, List.set_cons_succ]
      refine wpAnyL_take (i := 2) (v := ?_) rfl (by kernel_rfl) (by kernel_rfl) (by kernel_rfl) (by kernel_rfl) (fun _ _ _ h => h) (Or.inl ⟨by rfl, ?_⟩) (by first | trivial | assumption) ?_
      rotate_left 1
      · (intro w hSw; (try dsimp only at hSw); go_simp; all_goals with_reducible rfl)
      try simp only [Act.put, List.getElem_toArray, List.getElem_cons_zero, List.getElem_cons_succ, List.setIfInBounds_toArray, List.set_cons_zero, List.set_cons_succ]
      refine wpAnyL_take (i := 3) (v := ?_) rfl (by kernel_rfl) (by kernel_rfl) (by kernel_rfl) (by kernel_rfl) (fun _ _ _ h => h) (Or.inl ⟨by rfl, ?_⟩) (by first | trivial | assumption) ?_
      rotate_left 1
      · (intro w hSw; (try dsimp only at hSw); go_simp; all_goals with_reducible rfl)
      try simp only [Act.put, List.getElem_toArray, List.getElem_cons_zero, List.getElem_cons_succ, List.setIfInBounds_toArray, List.set_cons_zero, List.set_cons_succ]
      refine wpAnyL_take (i := 4) (v := ?_) rfl (by kernel_rfl) (by kernel_rfl) (by kernel_rfl) (by kernel_rfl) (fun _ _ _ h => h) (Or.inl ⟨by rfl, ?_⟩) (by first | trivial | assumption) ?_
      rotate_left 1
      · (intro w hSw; (try dsimp only at hSw); go_simp; all_goals with_reducible rfl)
      try simp only [Act.put, List.getElem_toArray, List.getElem_cons_zero, List.getElem_cons_succ, List.setIfInBounds_toArray, List.set_cons_zero, List.set_cons_succ]
      refine wpAnyL_take (i := 5) (v := ?_) rfl (by kernel_rfl) (by kernel_rfl) (by kernel_rfl) (by kernel_rfl) (fun _ _ _ h => h) (Or.inl ⟨by rfl, ?_⟩) (by first | trivial | assumption) ?_
      rotate_left 1
      · (intro w hSw; (try dsimp only at hSw); go_simp; all_goals with_reducible rfl)
      try simp only [Act.put, List.getElem_toArray, List.getElem_cons_zero, List.getElem_cons_succ, List.setIfInBounds_toArray, List.set_cons_zero, List.set_cons_succ]
      refine wpAnyL_take (i := 6) (v := ?_) rfl (by kernel_rfl) (by kernel_rfl) (by kernel_rfl) (by kernel_rfl) (fun _ _ _ h => h) (Or.inl ⟨by rfl, ?_⟩) (by first | trivial | assumption) ?_
      rotate_left 1
      · (intro w hSw; (try dsimp only at hSw); go_simp; all_goals with_reducible rfl)
      try simp only [Act.put, List.getElem_toArray, List.getElem_cons_zero, List.getElem_cons_succ, List.setIfInBounds_toArray, List.set_cons_zero, List.set_cons_succ]
      refine wpAnyL_take (i := 12) (v := ?_) rfl (by kernel_rfl) (by kernel_rfl) (by kernel_rfl) (by kernel_rfl) (fun _ _ _ h => h) (Or.inl ⟨by rfl, ?_⟩) (by first | trivial | assumption) ?_
      rotate_left 1
      · (intro w hSw; (try dsimp only at hSw); go_simp; all_goals with_reducible rfl)
      try simp only [Act.put, List.getElem_toArray, List.getElem_cons_zero, List.getElem_cons_succ, List.setIfInBounds_toArray, List.set_cons_zero, List.set_cons_succ]
      refine wpAnyL_ready (rs := [7, 13]) (by kernel_rfl) (by simp) ?_
      refine AllReadyL.cons rfl (fun K hK => ?_) ?_
      · (refine step_lit_z (t := t) (w0 := w2) HBc.out.size (by rfl) (by rfl) (by rfl) ?_; intro g7 w7 hb7 hl7; have HBc := hide (below_next HBc.out hb7); have HL7 := hide hl7; (try have HL13 := hide (HL13.out.below hb7)); clear hb7 hl7)
        refine hK.out _ _ ?_ (fun hHeld => ?_)
        · (first | exact ⟨(HR2.out.below HBc.out).cells.1, (HR2.out.below HBc.out).cells.2.1⟩ | exact HHf.out.cells | exact ⟨HFu.out.cells.1, HFu.out.cells.2.1⟩)
        clear hK K
        try simp only [Act.put, List.getElem_toArray, List.getElem_cons_zero, List.getElem_cons_succ, List.setIfInBounds_toArray, List.set_cons_zero, List.set_cons_succ]
        refine wpAnyL_ready (rs := [8, 13]) (by kernel_rfl) (by simp) ?_
        refine AllReadyL.cons rfl (fun K hK => ?_) ?_
        · (refine step_append_z _ (by rfl) _ _ (by rfl) base (.slice av q.length ac) q.length (ids q) (by rfl) (HR2.out.below HBc.out).ra (some ⟨g7, 0, none⟩) 1 1 [t] (by rfl) rfl HL7.out.row (by omega) (Nat.le_trans hbs2 HBc.out.size) ?_; intro a8 c8 w8 hown8 hgrow8 hat8; have HHf := hide (half_of (t := t) HR2.out HBc.out hown8 hgrow8 hat8); (try have HL13 := hide (HL13.out.half HR2.out hgrow8)); clear hown8 hgrow8 hat8 HBc HL7)
          refine hK.out _ _ ?_ (fun hHeld => ?_)
          · (first | exact ⟨(HR2.out.below HBc.out).cells.1, (HR2.out.below HBc.out).cells.2.1⟩ | exact HHf.out.cells | exact ⟨HFu.out.cells.1, HFu.out.cells.2.1⟩)
          clear hK K
          try simp only [Act.put, List.getElem_toArray, List.getElem_cons_zero, List.getElem_cons_succ, List.setIfInBounds_toArray, List.set_cons_zero, List.set_cons_succ]
          refine wpAnyL_ready (rs := [13]) (by kernel_rfl) (by simp) ?_
          refine AllReadyL.cons rfl (fun K hK => ?_) ?_
          · (first | (refine step_lit_b (w0 := w2) HBc.out.size (by rfl) (by rfl) ?_; intro g13 w13 hb13 hl13; have HBc := hide (below_next HBc.out hb13)) | (refine step_lit_b (w0 := w2) HHf.out.mov.size (by rfl) (by rfl) ?_; intro g13 w13 hb13 hl13; have HHf := hide (HHf.out.below HR2.out.lt hb13))); have HL13 := hide hl13; (try have HL7 := hide (HL7.out.below hb13)); clear hb13 hl13
            refine hK.out _ _ ?_ (fun hHeld => ?_)
            · (first | exact ⟨(HR2.out.below HBc.out).cells.1, (HR2.out.below HBc.out).cells.2.1⟩ | exact HHf.out.cells | exact ⟨HFu.out.cells.1, HFu.out.cells.2.1⟩)
            clear hK K
            try simp only [Act.put, List.getElem_toArray, List.getElem_cons_zero, List.getElem_cons_succ, List.setIfInBounds_toArray, List.set_cons_zero, List.set_cons_succ]
            refine wpAnyL_ready (rs := [14]) (by kernel_rfl) (by simp) ?_
            refine AllReadyL.cons rfl (fun K hK => ?_) ?_
            · (refine step_append_b _ (by rfl) _ _ (by rfl) base (.slice bv q.length bc) q.length (hs q) (by rfl) HHf.out.rb g13 1 true (by rfl) HL13.out.cell (by omega) (Nat.le_trans hbs2 HHf.out.mov.size) ?_; intro a14 c14 w14 hown14 hgrow14 hat14; have HFu := hide (full_of HHf.out HR2.out hown14 hgrow14 hat14); obtain ⟨y0, y1, yf⟩ := HFu.out.cells; have yf0 := yf 0; have yf1 := yf 1; clear hown14 hgrow14 hat14 yf HHf HL13)
              refine hK.out _ _ ?_ (fun hHeld => ?_)
              · (first | exact ⟨(HR2.out.below HBc.out).cells.1, (HR2.out.below HBc.out).cells.2.1⟩ | exact HHf.out.cells | exact ⟨HFu.out.cells.1, HFu.out.cells.2.1⟩)
              clear hK K
              try simp only [Act.put, List.getElem_toArray, List.getElem_cons_zero, List.getElem_cons_succ, List.setIfInBounds_toArray, List.set_cons_zero, List.set_cons_succ]
              refine wpAnyL_ready (rs := [15]) (by kernel_rfl) (by simp) ?_
              refine AllReadyL.cons rfl (fun K hK => ?_) ?_
              · go_simp
                refine hK.out _ _ ?_ (fun hHeld => ?_)
                · (first | exact ⟨(HR2.out.below HBc.out).cells.1, (HR2.out.below HBc.out).cells.2.1⟩ | exact HHf.out.cells | exact ⟨HFu.out.cells.1, HFu.out.cells.2.1⟩)
                clear hK K
                try simp only [Act.put, List.getElem_toArray, List.getElem_cons_zero, List.getElem_cons_succ, List.setIfInBounds_toArray, List.set_cons_zero, List.set_cons_succ]
                refine wpAnyL_take (i := 16) (v := ?_) rfl (by kernel_rfl) (by kernel_rfl) (by kernel_rfl) (by kernel_rfl) (fun _ _ _ h => h) (Or.inl ⟨by rfl, ?_⟩) (by first | trivial | assumption) ?_
                rotate_left 1
                · (intro w hSw; (try dsimp only at hSw); go_simp; all_goals with_reducible rfl)
                try simp only [Act.put, List.getElem_toArray, List.getElem_cons_zero, List.getElem_cons_succ, List.setIfInBounds_toArray, List.set_cons_zero, List.set_cons_succ]
                refine wpAnyL_ready (rs := [17]) (by kernel_rfl) (by simp) ?_
                refine AllReadyL.last rfl (by kernel_rfl) (fun K hK => ?_)
                go_simp
                refine hK.out _ _ ?_
                clear hK K
                try simp only [Act.put, List.getElem_toArray, List.getElem_cons_zero, List.getElem_cons_succ, List.setIfInBounds_toArray, List.set_cons_zero, List.set_cons_succ]
                refine wpAnyL_takeP (i := 18) (v := ?_) rfl (by kernel_rfl) (by kernel_rfl) (by kernel_rfl) (by kernel_rfl) (fun _ _ _ h => h) (Or.inl ⟨by rfl, ?_⟩) ?_
                rotate_left 1
                · (intro w hSw; (try dsimp only at hSw); go_simp; all_goals with_reducible rfl)
                try simp only [Act.put, List.getElem_toArray, List.getElem_cons_zero, List.getElem_cons_succ, List.setIfInBounds_toArray, List.set_cons_zero, List.set_cons_succ]
                refine wpAnyL_takeP (i := 19) (v := ?_) rfl (by kernel_rfl) (by kernel_rfl) (by kernel_rfl) (by kernel_rfl) (fun _ _ _ h => h) (Or.inl ⟨by rfl, ?_⟩) ?_
                rotate_left 1
                · (intro w hSw; (try dsimp only at hSw); go_simp; all_goals with_reducible rfl)
                try simp only [Act.put, List.getElem_toArray, List.getElem_cons_zero, List.getElem_cons_succ, List.setIfInBounds_toArray, List.set_cons_zero, List.set_cons_succ]
                refine wpAnyL_ready (rs := [20]) (by kernel_rfl) (by simp) ?_
                refine AllReadyL.last rfl (by kernel_rfl) (fun K hK => ?_)
                go_simp
                refine hK.out _ _ ?_
                clear hK K
                try simp only [Act.put, List.getElem_toArray, List.getElem_cons_zero, List.getElem_cons_succ, List.setIfInBounds_toArray, List.set_cons_zero, List.set_cons_succ]
                refine wpAnyL_done (by kernel_rfl) ?_ _
                refine NoPanic.normal ?_
                have HF := hide (NowR.next HV2.out HW2.out HFu.out.done)
                clear hHeld y0 y1 yf0 yf1 HFu HV2 HW2 HR2 c0 c1
                go_wp2
                go_ret
                exact ⟨rfl, HF.out⟩
              exact AllReadyL.nil
            exact AllReadyL.nil
          exact AllReadyL.nil
        refine AllReadyL.cons rfl (fun K hK => ?_) ?_
        · (first | (refine step_lit_b (w0 := w2) HBc.out.size (by rfl) (by rfl) ?_; intro g13 w13 hb13 hl13; have HBc := hide (below_next HBc.out hb13)) | (refine step_lit_b (w0 := w2) HHf.out.mov.size (by rfl) (by rfl) ?_; intro g13 w13 hb13 hl13; have HHf := hide (HHf.out.below HR2.out.lt hb13))); have HL13 := hide hl13; (try have HL7 := hide (HL7.out.below hb13)); clear hb13 hl13
          refine hK.out _ _ ?_ (fun hHeld => ?_)
          · (first | exact ⟨(HR2.out.below HBc.out).cells.1, (HR2.out.below HBc.out).cells.2.1⟩ | exact HHf.out.cells | exact ⟨HFu.out.cells.1, HFu.out.cells.2.1⟩)
          clear hK K
          try simp only [Act.put, List.getElem_toArray, List.getElem_cons_zero, List.getElem_cons_succ, List.setIfInBounds_toArray, List.set_cons_zero, List.set_cons_succ]
          refine wpAnyL_ready (rs := [8]) (by kernel_rfl) (by simp) ?_
          refine AllReadyL.cons rfl (fun K hK => ?_) ?_
          · (refine step_append_z _ (by rfl) _ _ (by rfl) base (.slice av q.length ac) q.length (ids q) (by rfl) (HR2.out.below HBc.out).ra (some ⟨g7, 0, none⟩) 1 1 [t] (by rfl) rfl HL7.out.row (by omega) (Nat.le_trans hbs2 HBc.out.size) ?_; intro a8 c8 w8 hown8 hgrow8 hat8; have HHf := hide (half_of (t := t) HR2.out HBc.out hown8 hgrow8 hat8); (try have HL13 := hide (HL13.out.half HR2.out hgrow8)); clear hown8 hgrow8 hat8 HBc HL7)
            refine hK.out _ _ ?_ (fun hHeld => ?_)
            · (first | exact ⟨(HR2.out.below HBc.out).cells.1, (HR2.out.below HBc.out).cells.2.1⟩ | exact HHf.out.cells | exact ⟨HFu.out.cells.1, HFu.out.cells.2.1⟩)
            clear hK K
            try simp only [Act.put, List.getElem_toArray, List.getElem_cons_zero, List.getElem_cons_succ, List.setIfInBounds_toArray, List.set_cons_zero, List.set_cons_succ]
            refine wpAnyL_ready (rs := [14]) (by kernel_rfl) (by simp) ?_
            refine AllReadyL.cons rfl (fun K hK => ?_) ?_
            · (refine step_append_b _ (by rfl) _ _ (by rfl) base (.slice bv q.length bc) q.length (hs q) (by rfl) HHf.out.rb g13 1 true (by rfl) HL13.out.cell (by omega) (Nat.le_trans hbs2 HHf.out.mov.size) ?_; intro a14 c14 w14 hown14 hgrow14 hat14; have HFu := hide (full_of HHf.out HR2.out hown14 hgrow14 hat14); obtain ⟨y0, y1, yf⟩ := HFu.out.cells; have yf0 := yf 0; have yf1 := yf 1; clear hown14 hgrow14 hat14 yf HHf HL13)
              refine hK.out _ _ ?_ (fun hHeld => ?_)
              · (first | exact ⟨(HR2.out.below HBc.out).cells.1, (HR2.out.below HBc.out).cells.2.1⟩ | exact HHf.out.cells | exact ⟨HFu.out.cells.1, HFu.out.cells.2.1⟩)
              clear hK K
              try simp only [Act.put, List.getElem_toArray, List.getElem_cons_zero, List.getElem_cons_succ, List.setIfInBounds_toArray, List.set_cons_zero, List.set_cons_succ]
              refine wpAnyL_ready (rs := [15]) (by kernel_rfl) (by simp) ?_
              refine AllReadyL.cons rfl (fun K hK => ?_) ?_
              · go_simp
                refine hK.out _ _ ?_ (fun hHeld => ?_)
                · (first | exact ⟨(HR2.out.below HBc.out).cells.1, (HR2.out.below HBc.out).cells.2.1⟩ | exact HHf.out.cells | exact ⟨HFu.out.cells.1, HFu.out.cells.2.1⟩)
                clear hK K
                try simp only [Act.put, List.getElem_toArray, List.getElem_cons_zero, List.getElem_cons_succ, List.setIfInBounds_toArray, List.set_cons_zero, List.set_cons_succ]
                refine wpAnyL_take (i := 16) (v := ?_) rfl (by kernel_rfl) (by kernel_rfl) (by kernel_rfl) (by kernel_rfl) (fun _ _ _ h => h) (Or.inl ⟨by rfl, ?_⟩) (by first | trivial | assumption) ?_
                rotate_left 1
                · (intro w hSw; (try dsimp only at hSw); go_simp; all_goals with_reducible rfl)
                try simp only [Act.put, List.getElem_toArray, List.getElem_cons_zero, List.getElem_cons_succ, List.setIfInBounds_toArray, List.set_cons_zero, List.set_cons_succ]
                refine wpAnyL_ready (rs := [17]) (by kernel_rfl) (by simp) ?_
                refine AllReadyL.last rfl (by kernel_rfl) (fun K hK => ?_)
                go_simp
                refine hK.out _ _ ?_
                clear hK K
                try simp only [Act.put, List.getElem_toArray, List.getElem_cons_zero, List.getElem_cons_succ, List.setIfInBounds_toArray, List.set_cons_zero, List.set_cons_succ]
                refine wpAnyL_takeP (i := 18) (v := ?_) rfl (by kernel_rfl) (by kernel_rfl) (by kernel_rfl) (by kernel_rfl) (fun _ _ _ h => h) (Or.inl ⟨by rfl, ?_⟩) ?_
                rotate_left 1
                · (intro w hSw; (try dsimp only at hSw); go_simp; all_goals with_reducible rfl)
                try simp only [Act.put, List.getElem_toArray, List.getElem_cons_zero, List.getElem_cons_succ, List.setIfInBounds_toArray, List.set_cons_zero, List.set_cons_succ]
                refine wpAnyL_takeP (i := 19) (v := ?_) rfl (by kernel_rfl) (by kernel_rfl) (by kernel_rfl) (by kernel_rfl) (fun _ _ _ h => h) (Or.inl ⟨by rfl, ?_⟩) ?_
                rotate_left 1
                · (intro w hSw; (try dsimp only at hSw); go_simp; all_goals with_reducible rfl)
                try simp only [Act.put, List.getElem_toArray, List.getElem_cons_zero, List.getElem_cons_succ, List.setIfInBounds_toArray, List.set_cons_zero, List.set_cons_succ]
                refine wpAnyL_ready (rs := [20]) (by kernel_rfl) (by simp) ?_
                refine AllReadyL.last rfl (by kernel_rfl) (fun K hK => ?_)
                go_simp
                refine hK.out _ _ ?_
                clear hK K
                try simp only [Act.put, List.getElem_toArray, List.getElem_cons_zero, List.getElem_cons_succ, List.setIfInBounds_toArray, List.set_cons_zero, List.set_cons_succ]
                refine wpAnyL_done (by kernel_rfl) ?_ _
                refine NoPanic.normal ?_
                have HF := hide (NowR.next HV2.out HW2.out HFu.out.done)
                clear hHeld y0 y1 yf0 yf1 HFu HV2 HW2 HR2 c0 c1
                go_wp2
                go_ret
                exact ⟨rfl, HF.out⟩
              exact AllReadyL.nil
            exact AllReadyL.nil
          exact AllReadyL.nil
        exact AllReadyL.nil
      refine AllReadyL.cons rfl (fun K hK => ?_) ?_
      · (first | (refine step_lit_b (w0 := w2) HBc.out.size (by rfl) (by rfl) ?_; intro g13 w13 hb13 hl13; have HBc := hide (below_next HBc.out hb13)) | (refine step_lit_b (w0 := w2) HHf.out.mov.size (by rfl) (by rfl) ?_; intro g13 w13 hb13 hl13; have HHf := hide (HHf.out.below HR2.out.lt hb13))); have HL13 := hide hl13; (try have HL7 := hide (HL7.out.below hb13)); clear hb13 hl13
        refine hK.out _ _ ?_ (fun hHeld => ?_)
        · (first | exact ⟨(HR2.out.below HBc.out).cells.1, (HR2.out.below HBc.out).cells.2.1⟩ | exact HHf.out.cells | exact ⟨HFu.out.cells.1, HFu.out.cells.2.1⟩)
        clear hK K
        try simp only [Act.put, List.getElem_toArray, List.getElem_cons_zero, List.getElem_cons_succ, List.setIfInBounds_toArray, List.set_cons_zero, List.set_cons_succ]
        refine wpAnyL_ready (rs := [7]) (by kernel_rfl) (by simp) ?_
        refine AllReadyL.cons rfl (fun K hK => ?_) ?_
        · (refine step_lit_z (t := t) (w0 := w2) HBc.out.size (by rfl) (by rfl) (by rfl) ?_; intro g7 w7 hb7 hl7; have HBc := hide (below_next HBc.out hb7); have HL7 := hide hl7; (try have HL13 := hide (HL13.out.below hb7)); clear hb7 hl7)
          refine hK.out _ _ ?_ (fun hHeld => ?_)
          · (first | exact ⟨(HR2.out.below HBc.out).cells.1, (HR2.out.below HBc.out).cells.2.1⟩ | exact HHf.out.cells | exact ⟨HFu.out.cells.1, HFu.out.cells.2.1⟩)
          clear hK K
          try simp only [Act.put, List.getElem_toArray, List.getElem_cons_zero, List.getElem_cons_succ, List.setIfInBounds_toArray, List.set_cons_zero, List.set_cons_succ]
          refine wpAnyL_ready (rs := [8]) (by kernel_rfl) (by simp) ?_
          refine AllReadyL.cons rfl (fun K hK => ?_) ?_
          · (refine step_append_z _ (by rfl) _ _ (by rfl) base (.slice av q.length ac) q.length (ids q) (by rfl) (HR2.out.below HBc.out).ra (some ⟨g7, 0, none⟩) 1 1 [t] (by rfl) rfl HL7.out.row (by omega) (Nat.le_trans hbs2 HBc.out.size) ?_; intro a8 c8 w8 hown8 hgrow8 hat8; have HHf := hide (half_of (t := t) HR2.out HBc.out hown8 hgrow8 hat8); (try have HL13 := hide (HL13.out.half HR2.out hgrow8)); clear hown8 hgrow8 hat8 HBc HL7)
            refine hK.out _ _ ?_ (fun hHeld => ?_)
            · (first | exact ⟨(HR2.out.below HBc.out).cells.1, (HR2.out.below HBc.out).cells.2.1⟩ | exact HHf.out.cells | exact ⟨HFu.out.cells.1, HFu.out.cells.2.1⟩)
            clear hK K
            try simp only [Act.put, List.getElem_toArray, List.getElem_cons_zero, List.getElem_cons_succ, List.setIfInBounds_toArray, List.set_cons_zero, List.set_cons_succ]
            refine wpAnyL_ready (rs := [14]) (by kernel_rfl) (by simp) ?_
            refine AllReadyL.cons rfl (fun K hK => ?_) ?_
            · (refine step_append_b _ (by rfl) _ _ (by rfl) base (.slice bv q.length bc) q.length (hs q) (by rfl) HHf.out.rb g13 1 true (by rfl) HL13.out.cell (by omega) (Nat.le_trans hbs2 HHf.out.mov.size) ?_; intro a14 c14 w14 hown14 hgrow14 hat14; have HFu := hide (full_of HHf.out HR2.out hown14 hgrow14 hat14); obtain ⟨y0, y1, yf⟩ := HFu.out.cells; have yf0 := yf 0; have yf1 := yf 1; clear hown14 hgrow14 hat14 yf HHf HL13)
              refine hK.out _ _ ?_ (fun hHeld => ?_)
              · (first | exact ⟨(HR2.out.below HBc.out).cells.1, (HR2.out.below HBc.out).cells.2.1⟩ | exact HHf.out.cells | exact ⟨HFu.out.cells.1, HFu.out.cells.2.1⟩)
              clear hK K
              try simp only [Act.put, List.getElem_toArray, List.getElem_cons_zero, List.getElem_cons_succ, List.setIfInBounds_toArray, List.set_cons_zero, List.set_cons_succ]
              refine wpAnyL_ready (rs := [15]) (by kernel_rfl) (by simp) ?_
              refine AllReadyL.cons rfl (fun K hK => ?_) ?_
              · go_simp
                refine hK.out _ _ ?_ (fun hHeld => ?_)
                · (first | exact ⟨(HR2.out.below HBc.out).cells.1, (HR2.out.below HBc.out).cells.2.1⟩ | exact HHf.out.cells | exact ⟨HFu.out.cells.1, HFu.out.cells.2.1⟩)
                clear hK K
                try simp only [Act.put, List.getElem_toArray, List.getElem_cons_zero, List.getElem_cons_succ, List.setIfInBounds_toArray, List.set_cons_zero, List.set_cons_succ]
                refine wpAnyL_take (i := 16) (v := ?_) rfl (by kernel_rfl) (by kernel_rfl) (by kernel_rfl) (by kernel_rfl) (fun _ _ _ h => h) (Or.inl ⟨by rfl, ?_⟩) (by first | trivial | assumption) ?_
                rotate_left 1
                · (intro w hSw; (try dsimp only at hSw); go_simp; all_goals with_reducible rfl)
                try simp only [Act.put, List.getElem_toArray, List.getElem_cons_zero, List.getElem_cons_succ, List.setIfInBounds_toArray, List.set_cons_zero, List.set_cons_succ]
                refine wpAnyL_ready (rs := [17]) (by kernel_rfl) (by simp) ?_
                refine AllReadyL.last rfl (by kernel_rfl) (fun K hK => ?_)
                go_simp
                refine hK.out _ _ ?_
                clear hK K
                try simp only [Act.put, List.getElem_toArray, List.getElem_cons_zero, List.getElem_cons_succ, List.setIfInBounds_toArray, List.set_cons_zero, List.set_cons_succ]
                refine wpAnyL_takeP (i := 18) (v := ?_) rfl (by kernel_rfl) (by kernel_rfl) (by kernel_rfl) (by kernel_rfl) (fun _ _ _ h => h) (Or.inl ⟨by rfl, ?_⟩) ?_
                rotate_left 1
                · (intro w hSw; (try dsimp only at hSw); go_simp; all_goals with_reducible rfl)
                try simp only [Act.put, List.getElem_toArray, List.getElem_cons_zero, List.getElem_cons_succ, List.setIfInBounds_toArray, List.set_cons_zero, List.set_cons_succ]
                refine wpAnyL_takeP (i := 19) (v := ?_) rfl (by kernel_rfl) (by kernel_rfl) (by kernel_rfl) (by kernel_rfl) (fun _ _ _ h => h) (Or.inl ⟨by rfl, ?_⟩) ?_
                rotate_left 1
                · (intro w hSw; (try dsimp only at hSw); go_simp; all_goals with_reducible rfl)
                try simp only [Act.put, List.getElem_toArray, List.getElem_cons_zero, List.getElem_cons_succ, List.setIfInBounds_toArray, List.set_cons_zero, List.set_cons_succ]
                refine wpAnyL_ready (rs := [20]) (by kernel_rfl) (by simp) ?_
                refine AllReadyL.last rfl (by kernel_rfl) (fun K hK => ?_)
                go_simp
                refine hK.out _ _ ?_
                clear hK K
                try simp only [Act.put, List.getElem_toArray, List.getElem_cons_zero, List.getElem_cons_succ, List.setIfInBounds_toArray, List.set_cons_zero, List.set_cons_succ]
                refine wpAnyL_done (by kernel_rfl) ?_ _
                refine NoPanic.normal ?_
                have HF := hide (NowR.next HV2.out HW2.out HFu.out.done)
                clear hHeld y0 y1 yf0 yf1 HFu HV2 HW2 HR2 c0 c1
                go_wp2
                go_ret
                exact ⟨rfl, HF.out⟩
              exact AllReadyL.nil
            exact AllReadyL.nil
          exact AllReadyL.nil
        exact AllReadyL.nil
      exact AllReadyL.nil
    · rw [(wait_in h1 hb).1, waitQ_in h1 hb]
      rw [hb] at D
      have HD := hide D
      obtain ⟨j, hj, ha, hn⟩ := last_at hb
      have HK := hide (back_at hI hb hj ha hn)
      have HN := hide hn
      have haq : qa (offQ q t) j = t := (off_qa q t j).trans ha
      have hjq : j < (offQ q t).length := by rw [off_len]; exact hj
      have HL := hide (off_len q t)
      have hlq : (offQ q t).length ≤ 1000 := by rw [off_len]; exact hl
      have HN2 : Hid (∀ k, j < k → k < (offQ q t).length → qa (offQ q t) k ≠ t) := hide fun k k1 k2 => by
        rw [off_qa]
        exact hn k k1 (by rw [← off_len q t]; exact k2)
      have HKq : Hid ((offQ q t).set j (t, true) = q) := HK
      clear D hb hI hn HN HK ha hj HL
      generalize offQ q t = p at *
      go_enter Try.func16, Try.ntmps16
      go_wp2_with fail
      refine HD.out.mono ?_
      rintro e w2 ⟨rfl, hN⟩
      obtain ⟨u2, hR2, hV2, hW2⟩ := hN
      obtain ⟨av, ac, bv, bc, rfl⟩ := hR2.forms
      have HR2 := hide hR2
      have HV2 := hide hV2
      have HW2 := hide hW2
      obtain ⟨c0, c1, _⟩ := hR2.cells
      clear hR2 hV2 hW2 HD HR
      have hw1 : IntKind.i64.wrap ((p.length : Int) - 1) = ((p.length - 1 : Nat) : Int) := by rw [wrapB (by omega)]; omega
      go_wp2_with fail
      go_loop [5] (fun i => ∃ m : Nat, i = .int .i64 (m : Int) ∧ j ≤ m ∧ m < p.length) (fun i => (intOf i).toNat)
      case atStart => exact ⟨p.length - 1, rfl, by omega, by omega⟩
      case round =>
        obtain ⟨m, rfl, hjm, hm⟩ := hrel
        obtain ⟨g, f, rfl, rfl, e1, e2, ef, hc⟩ := HR2.out.place hm
        have i1 : (m : Int) < (p.length : Int) := by omega
        have i0 : (0 : Int) ≤ (m : Int) := by omega
        clear hw1
        by_cases hx : m = j
        · subst hx
          have HM := hide (NowR.mark (b := true) HR2.out (g := f) rfl hm haq)
          rw [haq] at e1
          have hx' : (t == t) = true := by simp
          rw [HKq.out] at HM
          have HF := hide (NowR.next HV2.out HW2.out HM.out)
          clear HM HKq HN2 HV2 HW2 haq
          generalize p.length = L at *
          go_wp2
          go_ret
          exact ⟨rfl, HF.out⟩
        · have hne := HN2.out m (by omega) hm
          have hx' : (qa p m == t) = false := by simpa using hne
          have hw2 : IntKind.i64.wrap ((m : Int) - 1) = ((m - 1 : Nat) : Int) := by rw [wrapB (by omega)]; omega
          clear hne ef
          generalize qa p m = X at *
          go_wp2_with fail
          go_round
          case rel => exact ⟨m - 1, rfl, by omega, by omega⟩
          case measure => simp [intOf]; omega

end Go.Proofs.Ytinfmchbcipbjaa
