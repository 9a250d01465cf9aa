/-
  What the document's Pop comes to.
-/
import Derived.Test.YtonahaembfbgbaaRefRm
namespace Go.Proofs.Ytonahaembfbgbaa
open Go.RowKit
attribute [local go_sem ↓] Go.wp_at_zero Go.wp_at_succ

theorem news_drop {W : World} {g x : Nat} {r : List Nat} (h : ∀ k, k < (x :: r).length → W.cell? ⟨g, k, none⟩ = some (.int .i64 ((gs_ (x :: r) k : Nat) : Int))) : ∀ j u, (cI r)[j]? = some u → W.cell? ((⟨g, 1, none⟩ : Addr).add j) = some u := by
  intro j u hj
  have hjl : j < r.length := by
    have := (List.getElem?_eq_some_iff.1 hj).1
    rwa [cI_len] at this
  have hadd : (⟨g, 1, none⟩ : Addr).add j = ⟨g, j + 1, none⟩ := by unfold Addr.add; split <;> simp_all <;> omega
  rw [hadd, h (j + 1) (by simpa using hjl), ← hj]
  simp [cI, gs_, hjl]

theorem popOf_set {s : Qs} (hs : Ok s) {k x : Nat} {r : List Nat} (hk : k < s.nq) (hl : s.l k = x :: r) : (popOf s (k : Int)).nq = s.nq ∧ (popOf s (k : Int)).ni = s.ni ∧ ∀ j, j < s.nq → (popOf s (k : Int)).l j = if j = k then r else s.l j := by
  refine ⟨(popOf_sizes s k).1, (popOf_sizes s k).2, fun j _ => ?_⟩
  have hq : hasQ s (k : Int) := ⟨by omega, by omega⟩
  have ha : allOf s (k : Int) = x :: r := by unfold allOf; rw [if_pos hq]; simpa using hl
  obtain ⟨w1, w2, w3, w4⟩ := all_where hs (k := (k : Int)) (x := x) (by rw [ha]; simp)
  have h1 : popX s (k : Int) = x := by simp [popX, ha]
  have h2 : popOf s (k : Int) = rmAt s k x := by
    unfold popOf rmOf
    rw [if_neg (by rw [ha]; simp), h1, if_neg (by rw [w1]; omega), w1]
    rfl
  have hnd := hs.nodup k hk
  rw [hl] at hnd
  rw [h2]
  show setL s.l k ((s.l k).filter (fun y => y != x)) j = _
  unfold setL
  by_cases e : j = k
  · rw [if_pos e, if_pos e, hl]
    exact split_filter (l1 := []) hnd
  · rw [if_neg e, if_neg e]

set_option maxHeartbeats 8000000 in
set_option maxRecDepth 100000 in
theorem refPop_yes (R T : Nat) (s : Qs) (vs : Nat → Value) (k x m : Nat) (r : List Nat) (w : World) (hs : Ok s) (hR : AtR w R T s vs) (hk : k < s.nq) (hl : s.l k = x :: r) (hm : r.length = m) :
    Calls Try.prog 11 #[.pointer (some ⟨R, 0, none⟩), .int .i64 (k : Int)] w fun e w' => e = .returned (.tuple #[.int .i64 (x : Int), .bool true]) ∧ NowR R T (popOf s (k : Int)) w w' := by
  obtain ⟨i0, hi, hz0, hz1, hz2⟩ := info_parts info3
  obtain ⟨c0, _⟩ := hR.cells
  obtain ⟨t0, t1⟩ := hR.at hk
  have hrow := hR.row k hk
  have hfew := all_few hs (k : Int)
  rw [all_nat hk, hl] at hfew
  simp only [List.length_cons] at hfew
  rw [hl] at hrow
  obtain ⟨g, c, hv, _, hgl, hcell, hgc⟩ := row_open hrow (by simp)
  have hlen : (x :: r).length = m + 1 := by simp [hm]
  rw [hlen] at hv hgc
  rw [hv] at t0
  obtain ⟨g0, _⟩ := hcell 0 (by simp)
  replace g0 : w.cell? ⟨g, 0, none⟩ = some (.int .i64 (x : Int)) := g0
  have h32 := hs.nq
  have hm32 : m ≤ 32 := by omega
  have hTl := hR.ltT
  have hRl := hR.ltR
  have hk' : (k : Int) < (s.nq : Int) := by omega
  have hk0 : ¬ (k : Int) < 0 := by omega
  have hk1 : ¬ (s.nq : Int) ≤ (k : Int) := by omega
  have hm1 : ((m : Int) + 1 == 0) = false := by simp; omega
  have b0 : (1 : Int) ≤ (m : Int) + 1 := by omega
  have b1 : (m : Int) + 1 ≤ (c : Int) := by omega
  have b2 : (0 : Int) ≤ (k : Int) := by omega
  have HR := hide hR
  have HP := hide (popOf_set hs hk hl)
  have HCL : Hid (∀ j, j < (x :: r).length → w.cell? ⟨g, j, none⟩ = some (.int .i64 ((gs_ (x :: r) j : Nat) : Int))) := fun j hj => (hcell j hj).1
  have HM := hide hm
  have HKN := hide hk
  clear hR hcell hrow hv hs hl hm hlen hfew hk
  by_cases hc1 : c = 1
  · subst hc1
    have HNil : Hid (r = []) := List.length_eq_zero_iff.1 (by rw [HM.out]; omega)
    have hset := HR.out.set (v := .slice (some ⟨w.heap.size, 0, none⟩) 0 0) (l := r) (s' := popOf s (k : Int)) (k := k) (bel1 w (.cells #[] 3)) (by rw [HNil.out]; exact owns_mono (lit1 w) (Nat.zero_le _)) HKN.out HP.out.1 HP.out.2.1 HP.out.2.2
    rw [World.setCell_drew, World.setCell_alloc_past (hn := hTl)] at hset
    have HS := hide hset
    clear hset
    obtain rfl : m = 0 := by omega
    go_enter Try.func11, Try.ntmps11
    go_wp2_with fail
    go_region_law (fail)
    all_goals
      go_wp2
      go_ret2
      exact ⟨rfl, _, HS.out.1, HS.out.2⟩
  · go_enter Try.func11, Try.ntmps11
    go_wp2_with fail
    go_region_law
      ((refine step_copy_any _ (by rfl) _ _ _ (by rfl) 0 3 i0 (.int .i64 0) 1 8 Try.underlying37 hi hz0 hz1 hz2 rfl (by omega) (.slice (some ⟨w.heap.size, 0, none⟩) 0 0) (by rfl) (by exact (World.ownsRow_lit w #[] 0 (Nat.zero_le _) (by unfold maxLen; omega) rfl).drew) ⟨g, 1, none⟩ m _ (cI r) (by rfl) (by rw [cI_len, HM.out]; omega) (by exact news_drop (fun j hj => (((Below.refl w.heap.size w).alloc (Nat.le_refl _) _).drew.cell (p := ⟨g, j, none⟩) hgl).trans (HCL.out j hj))) (ones_row _) (by unfold maxLen; omega) (by omega) (Nat.zero_le _) ?_; intro ad' cap' w5 hown5 hgrow5 hat5; have hB5 : Below w.heap.size w w5 := below_new ((Below.refl w.heap.size w).alloc (Nat.le_refl _) _).drew hgrow5; have yc := (HR.out.below hB5).cells.1; obtain ⟨yt, yf⟩ := (HR.out.below hB5).at HKN.out))
    all_goals
      have HS := hide (HR.out.set (v := .slice ad' m cap') (l := r) (s' := popOf s (k : Int)) (k := k) hB5 (by rw [HM.out]; exact hown5) HKN.out HP.out.1 HP.out.2.1 HP.out.2.2)
      clear hown5 hgrow5
      go_wp2
      go_ret2
      exact ⟨rfl, _, HS.out.1, HS.out.2⟩

set_option maxHeartbeats 2000000 in
theorem refPop_no (R T : Nat) (s : Qs) (vs : Nat → Value) (k : Int) (w : World) (hR : AtR w R T s vs) (hs : Ok s) (h : allOf s k = []) :
    Calls Try.prog 11 #[.pointer (some ⟨R, 0, none⟩), .int .i64 k] w fun e w' => e = .returned (.tuple #[.int .i64 0, .bool false]) ∧ w' = w := by
  obtain ⟨c0, _⟩ := hR.cells
  by_cases h1 : k < 0
  · have d1 : decide (k < 0) = true := by simpa using h1
    clear hR
    go_enter Try.func11, Try.ntmps11
    go_wp2
    go_ret2
    exact ⟨rfl, rfl⟩
  · have d1 : decide (k < 0) = false := by simpa using h1
    by_cases h2 : (s.nq : Int) ≤ k
    · have d2 : decide ((s.nq : Int) ≤ k) = true := by simpa using h2
      clear hR
      go_enter Try.func11, Try.ntmps11
      go_wp2
      go_ret2
      exact ⟨rfl, rfl⟩
    · have d2 : decide ((s.nq : Int) ≤ k) = false := by simpa using h2
      obtain ⟨j, rfl⟩ : ∃ j : Nat, k = (j : Int) := ⟨k.toNat, by omega⟩
      have hj : j < s.nq := by omega
      rw [all_nat hj] at h
      have hrow := hR.row j hj
      obtain ⟨t0, _⟩ := hR.at hj
      obtain ⟨a, c, hv⟩ := owns_slice hrow
      rw [hv, h] at t0
      have hj' : (j : Int) < (s.nq : Int) := by omega
      replace t0 : w.cell? ⟨T, j, none⟩ = some (.slice a 0 c) := t0
      have h32 := hs.nq
      clear hR hrow hv h hs
      go_enter Try.func11, Try.ntmps11
      go_wp2
      go_ret2
      exact ⟨rfl, rfl⟩

theorem refPop_any (R T : Nat) (s : Qs) (vs : Nat → Value) (k : Int) (w : World) (hs : Ok s) (hR : AtR w R T s vs) :
    Calls Try.prog 11 #[.pointer (some ⟨R, 0, none⟩), .int .i64 k] w fun e w' => e = .returned (.tuple #[.int .i64 (popX s k : Int), .bool (popB s k)]) ∧ NowR R T (popOf s k) w w' := by
  rcases ha : allOf s k with _ | ⟨x, r⟩
  · have e : popX s k = 0 ∧ popB s k = false ∧ popOf s k = s := by simp [popX, popB, popOf, ha]
    rw [e.1, e.2.1, e.2.2]
    refine (refPop_no R T s vs k w hR hs ha).mono ?_
    rintro e w' ⟨rfl, rfl⟩
    exact ⟨rfl, vs, hR, Turn.refl _ _ _⟩
  · have hk : hasQ s k := by
      by_cases h : hasQ s k
      · exact h
      · rw [show allOf s k = [] from if_neg h] at ha; cases ha
    obtain ⟨j, rfl⟩ : ∃ j : Nat, k = (j : Int) := ⟨k.toNat, by omega⟩
    have e : popX s (j : Int) = x ∧ popB s (j : Int) = true := by simp [popX, popB, ha]
    rw [e.1, e.2]
    rw [all_nat (by omega)] at ha
    exact refPop_yes R T s vs j x r.length r w hs hR (by omega) ha rfl

end Go.Proofs.Ytonahaembfbgbaa
