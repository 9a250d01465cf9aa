/-
  What the document's Signal comes to.
-/
import Derived.Test.YtinfmchbcipbjaaRead
import Derived.Test.YtinfmchbcipbjaaLate
import Derived.Deep.RegionHeld3
namespace Go.Proofs.Ytinfmchbcipbjaa
open Go.RowKit

theorem gz_row {w : World} {base : Nat} {a : Option Addr} {c : Nat} {l : List Int} (h : w.ownsRow base 3 1 (.slice a l.length c) l.length (cZ l)) (h0 : 0 < l.length) : ∃ g, a = some ⟨g, 0, none⟩ ∧ base ≤ g ∧ g < w.heap.size ∧ w.cell? ⟨g, 0, none⟩ = some (.int .i64 (gz l 0)) := by
  obtain ⟨g, c', hv, h1, h2, h3, _⟩ := row_open h h0
  injection hv with e
  exact ⟨g, e, h1, h2, (h3 0 h0).1⟩

set_option maxRecDepth 20000 in
set_option maxHeartbeats 4000000 in
set_option linter.unusedSimpArgs false in
theorem rsignal_any (R base : Nat) (u : Vs) (q : Q) (hI : Inv q) (hl : q.length ≤ 1000) (w : World) (hR : AtR w R base u q) :
    Calls Try.prog 11 #[.pointer (some ⟨R, 0, none⟩)] w fun e w' => e = .returned (.tuple #[.int .i64 (hold (wts q)), .bool (some1 (wts q))]) ∧ NowR R base u (offQ q (hold (wts q))) w w' := by
  have HT := hide (rwaits_any R base u q hl w hR)
  have HR := hide hR
  by_cases hn : wts q = []
  · have HE : Hid (offQ q (hold (wts q)) = q) := hide (off_none (by rw [hn]; rfl))
    have H1 : Hid (hold (wts q) = 0) := hide (by rw [hn]; rfl)
    have H2 : Hid (some1 (wts q) = false) := hide (by rw [hn]; rfl)
    rw [HE.out, H1.out, H2.out]
    have h0 : (wts q).length = 0 := by rw [hn]; rfl
    clear HE H1 H2 hn hR
    generalize wts q = l at *
    go_enter Try.func11, Try.ntmps11
    go_wp2_with fail
    refine HT.out.mono ?_
    rintro e w2 ⟨v, rfl, ho, hb⟩
    obtain ⟨a, c, rfl⟩ := owns_slice ho
    rw [h0]
    have HB := hide hb
    clear ho hb h0 HT
    go_wp2
    go_ret2
    exact ⟨rfl, NowR.same HR.out HB.out⟩
  · have hp := List.length_pos_iff.2 hn
    have HD : Hid (∀ W, AtR W R base u q → Calls Try.prog 9 #[.pointer (some ⟨R, 0, none⟩), .int .i64 (gz (wts q) 0)] W fun e w' => e = .returned (.bool true) ∧ NowR R base u (offQ q (hold (wts q))) W w') := hide fun W hW => by
      have := rdrop_any R base u q hI hl (hold (wts q)) W hW
      rw [hold_in hn] at this
      exact this
    rw [some_not hn]
    show Calls Try.prog 11 #[.pointer (some ⟨R, 0, none⟩)] w fun e w' => e = .returned (.tuple #[.int .i64 (gz (wts q) 0), .bool true]) ∧ NowR R base u (offQ q (hold (wts q))) w w'
    generalize offQ q (hold (wts q)) = q2 at *
    clear hn hR hI
    generalize wts q = l at *
    obtain ⟨X, hX⟩ : ∃ X, gz l 0 = X := ⟨_, rfl⟩
    rw [hX] at HD ⊢
    have HX := hide hX
    clear hX
    go_enter Try.func11, Try.ntmps11
    go_wp2_with fail
    refine HT.out.mono ?_
    rintro e w2 ⟨v, rfl, ho, hb⟩
    obtain ⟨a, c, rfl⟩ := owns_slice ho
    obtain ⟨g, rfl, hg0, hg, hc⟩ := gz_row ho hp
    rw [HX.out] at hc
    have n0 : ((l.length : Int) == 0) = false := by rw [beq_eq_false_iff_ne]; omega
    have n1 : (0 : Int) < (l.length : Int) := by omega
    have HB := hide hb
    have HC := hide hc
    have HK : Hid (∀ w' : World, NowR R base u q2 w2.drew w' → w'.cell? ⟨g, 0, none⟩ = some (.int .i64 X)) := hide fun w' hN => by
      obtain ⟨_, _, m, _⟩ := hN
      refine (World.cell?_of_block (m.block g hg fun k => ?_)).trans hc
      exact absurd (HR.out.mine_lt k) (Nat.not_lt.2 hg0)
    clear ho hb hc HT
    generalize l.length = L at *
    go_wp2_with fail
    refine wp_region_noPanic ?_
    refine wp_region_held_drew (S := fun w' => w'.cell? ⟨g, 0, none⟩ = some (.int .i64 X)) (by kernel_rfl) ?_ (fun hHeld => ?_)
    · exact HC.out
    refine wpAnyH_take (i := 0) (v := ?_) rfl (by kernel_rfl) (by kernel_rfl) (by kernel_rfl) (fun _ _ _ h => h) (Or.inl ⟨by rfl, ?_⟩) (by first | trivial | assumption) ?_
    rotate_left 1
    · (intro w hSw; (try dsimp only at hSw); go_simp; all_goals with_reducible rfl)
    try simp only [Act.put, List.getElem_toArray, List.getElem_cons_zero, List.getElem_cons_succ, List.setIfInBounds_toArray, List.set_cons_zero, List.set_cons_succ]
    refine wpAnyH_take (i := 1) (v := ?_) rfl (by kernel_rfl) (by kernel_rfl) (by kernel_rfl) (fun _ _ _ h => h) (Or.inl ⟨by rfl, ?_⟩) (by first | trivial | assumption) ?_
    rotate_left 1
    · (intro w hSw; (try dsimp only at hSw); go_simp; all_goals with_reducible rfl)
    try simp only [Act.put, List.getElem_toArray, List.getElem_cons_zero, List.getElem_cons_succ, List.setIfInBounds_toArray, List.set_cons_zero, List.set_cons_succ]
    refine wpAnyH_take (i := 2) (v := ?_) rfl (by kernel_rfl) (by kernel_rfl) (by kernel_rfl) (fun _ _ _ h => h) (Or.inl ⟨by rfl, ?_⟩) (by first | trivial | assumption) ?_
    rotate_left 1
    · (intro w hSw; (try dsimp only at hSw); go_simp; all_goals with_reducible rfl)
    try simp only [Act.put, List.getElem_toArray, List.getElem_cons_zero, List.getElem_cons_succ, List.setIfInBounds_toArray, List.set_cons_zero, List.set_cons_succ]
    refine wpAnyH_take (i := 3) (v := ?_) rfl (by kernel_rfl) (by kernel_rfl) (by kernel_rfl) (fun _ _ _ h => h) (Or.inl ⟨by rfl, ?_⟩) (by first | trivial | assumption) ?_
    rotate_left 1
    · (intro w hSw; (try dsimp only at hSw); go_simp; all_goals with_reducible rfl)
    try simp only [Act.put, List.getElem_toArray, List.getElem_cons_zero, List.getElem_cons_succ, List.setIfInBounds_toArray, List.set_cons_zero, List.set_cons_succ]
    refine wpAnyH_take (i := 4) (v := ?_) rfl (by kernel_rfl) (by kernel_rfl) (by kernel_rfl) (fun _ _ _ h => h) (Or.inl ⟨by rfl, ?_⟩) (by first | trivial | assumption) ?_
    rotate_left 1
    · (intro w hSw; (try dsimp only at hSw); go_simp; all_goals with_reducible rfl)
    try simp only [Act.put, List.getElem_toArray, List.getElem_cons_zero, List.getElem_cons_succ, List.setIfInBounds_toArray, List.set_cons_zero, List.set_cons_succ]
    refine wpAnyH_take (i := 5) (v := ?_) rfl (by kernel_rfl) (by kernel_rfl) (by kernel_rfl) (fun _ _ _ h => h) (Or.inl ⟨by rfl, ?_⟩) (by first | trivial | assumption) ?_
    rotate_left 1
    · (intro w hSw; (try dsimp only at hSw); go_simp; all_goals with_reducible rfl)
    try simp only [Act.put, List.getElem_toArray, List.getElem_cons_zero, List.getElem_cons_succ, List.setIfInBounds_toArray, List.set_cons_zero, List.set_cons_succ]
    refine wpAnyH_take (i := 6) (v := ?_) rfl (by kernel_rfl) (by kernel_rfl) (by kernel_rfl) (fun _ _ _ h => h) (Or.inl ⟨by rfl, ?_⟩) (by first | trivial | assumption) ?_
    rotate_left 1
    · (intro w hSw; (try dsimp only at hSw); go_simp; all_goals with_reducible rfl)
    try simp only [Act.put, List.getElem_toArray, List.getElem_cons_zero, List.getElem_cons_succ, List.setIfInBounds_toArray, List.set_cons_zero, List.set_cons_succ]
    refine wpAnyH_ready (rs := [7]) (by kernel_rfl) (by simp) ?_
    refine AllReadyH.cons rfl (fun K hK => ?_) ?_
    · (go_simp; go_at_call 9; refine (HD.out _ (HR.out.below (below_next HB.out (below_drewN w2 1)))).mono ?_; rintro e w3 ⟨rfl, hN⟩; have hq := HK.out w3 hN; have HN := hide hN; clear hN)
      refine hK.out _ _ ?_ (fun hHeld => ?_)
      · (first | assumption | exact hq)
      clear hK K
      try simp only [Act.put, List.getElem_toArray, List.getElem_cons_zero, List.getElem_cons_succ, List.setIfInBounds_toArray, List.set_cons_zero, List.set_cons_succ]
      refine wpAnyH_take (i := 8) (v := ?_) rfl (by kernel_rfl) (by kernel_rfl) (by kernel_rfl) (fun _ _ _ h => h) (Or.inl ⟨by rfl, ?_⟩) (by first | trivial | assumption) ?_
      rotate_left 1
      · (intro w hSw; (try dsimp only at hSw); go_simp; all_goals with_reducible rfl)
      try simp only [Act.put, List.getElem_toArray, List.getElem_cons_zero, List.getElem_cons_succ, List.setIfInBounds_toArray, List.set_cons_zero, List.set_cons_succ]
      refine wpAnyH_take (i := 9) (v := ?_) rfl (by kernel_rfl) (by kernel_rfl) (by kernel_rfl) (fun _ _ _ h => h) (Or.inl ⟨by rfl, ?_⟩) (by first | trivial | assumption) ?_
      rotate_left 1
      · (intro w hSw; (try dsimp only at hSw); go_simp; all_goals with_reducible rfl)
      try simp only [Act.put, List.getElem_toArray, List.getElem_cons_zero, List.getElem_cons_succ, List.setIfInBounds_toArray, List.set_cons_zero, List.set_cons_succ]
      refine wpAnyH_done (by kernel_rfl) ?_ _
      refine NoPanic.normal ?_
      have HF := hide (NowR.next (Mov.of_below (below_next HB.out (below_drewN w2 1))) (fun j hj => Or.inr hj) HN.out)
      clear HN HK HD HC HB hHeld
      go_wp2
      go_ret2
      exact ⟨rfl, HF.out⟩
    exact AllReadyH.nil

end Go.Proofs.Ytinfmchbcipbjaa
