/-
  What the document's out comes to.
-/
import Derived.Test.YtgldhlcdnijecaaRead
import Derived.Test.YtgldhlcdnijecaaLate
namespace Go.Proofs.Ytgldhlcdnijecaa
open Go.RowKit

/-- The rest of a row, where 's[j:]' points to. -/
theorem rest_z {w : World} {g L c j : Nat} {l : List Int} (hL : l.length = L) (hj : j ≤ L) (h0 : 0 < L) (h : RowZ w (some ⟨g, 0, none⟩) l) : ∃ A : Addr, (if c = j then some (⟨g, 0, none⟩ : Addr) else some ⟨g, j, none⟩) = some A ∧ (L ≤ c → RowZ w (some A) (l.drop j)) := by
  by_cases e : c = j
  · refine ⟨⟨g, 0, none⟩, if_pos e, fun hc hn => ?_⟩
    exact absurd (List.length_eq_zero_iff.1 (by rw [List.length_drop]; omega)) hn
  · refine ⟨⟨g, j, none⟩, if_neg e, fun _ => ?_⟩
    have := drop_z h (by omega) j
    rw [Nat.zero_add] at this
    exact this

set_option maxRecDepth 4000 in
set_option maxHeartbeats 4000000 in
set_option linter.unusedSimpArgs false in
theorem out_any (R base : Nat) (u : Vs) (s : Sm) (hl : s.q.length ≤ 1000) (k : Nat) (hk : k < s.q.length) (w : World) (hR : AtR w R base u s) (hbs : base ≤ w.heap.size) :
    Calls Try.prog 28 #[.pointer (some ⟨R, 0, none⟩), .int .i64 (k : Int)] w fun e w' => e = .returned (.tuple #[]) ∧ NowR R base u ⟨s.n, s.f, s.q.eraseIdx k⟩ w w' := by
  have hq := hR.q
  have hra := hq.ra
  have hrb := hq.rb
  obtain ⟨g1, c1, hv1, _, hg1, _, hc1⟩ := row_open hra (by rw [ts_len]; omega)
  obtain ⟨g2, c2, hv2, _, hg2, _, hc2⟩ := row_open hrb (by rw [us_len]; omega)
  rw [hv1] at hra
  rw [hv2] at hrb
  have hz1 := owns_rowZ hra
  have hz2 := hrb
  have hm1 := (row_cap hra).2
  have hm2 := (row_cap hrb).2
  have h1 := ts_len s.q
  have h2 := us_len s.q
  have e1 := ts_erase s.q k
  have e2 := us_erase s.q k
  have HFIN : Hid (∀ w', NowQ R base u s.n (s.n - s.f) ((ts s.q).take k ++ (ts s.q).drop (k + 1)) ((us s.q).take k ++ (us s.q).drop (k + 1)) w w' → NowR R base u ⟨s.n, s.f, s.q.eraseIdx k⟩ w w') := hide fun w' h => NowQ.r (by rw [e1, e2]; exact h)
  clear e1 e2 hra hrb hR
  obtain ⟨s3, hs3⟩ : ∃ s3 : Sm, s3 = ⟨s.n, s.f, s.q.eraseIdx k⟩ := ⟨_, rfl⟩
  rw [← hs3] at HFIN ⊢
  clear hs3
  obtain ⟨L, hL⟩ : ∃ L, s.q.length = L := ⟨_, rfl⟩
  rw [hL] at hl hk h1 h2
  generalize ts s.q = l1 at *
  generalize us s.q = l2 at *
  generalize s.n - s.f = K at *
  generalize s.n = n at *
  clear hL
  obtain ⟨ua, ub⟩ := u
  dsimp only at hv1 hv2
  subst hv1
  subst hv2
  rw [h1] at hq hc1 HFIN ⊢
  rw [h2] at hq hc2 HFIN ⊢
  obtain ⟨j, hj⟩ : ∃ j, j = k + 1 := ⟨_, rfl⟩
  rw [← hj] at HFIN
  obtain ⟨A1, hA1, hr1⟩ := rest_z (c := c1) (j := j) h1 (by omega) (by omega) hz1
  have HZ2 := hide (hr1 hc1)
  have HZ1 : Hid (RowZ w (some ⟨g1, 0, none⟩) (l1.take k)) := hide (take_z hz1 (by omega) k)
  have H2 := hide h2
  have HT1 : Hid ((l1.take k).length = k) := by show _ = _; rw [List.length_take]; omega
  have HD1 : Hid ((l1.drop j).length = L - j) := by show _ = _; rw [List.length_drop]; omega
  have HT2 : Hid ((l2.take k).length = k) := by show _ = _; rw [List.length_take]; omega
  have HD2 : Hid ((l2.drop j).length = L - j) := by show _ = _; rw [List.length_drop]; omega
  have HR := hide hq
  have hRl := hq.lt
  have q1 : IntKind.i64.wrap ((k : Int) + 1) = (j : Int) := by rw [wrapB (by omega)]; omega
  have q3 : (k : Int) ≤ (c1 : Int) := by omega
  have q4 : (j : Int) ≤ (L : Int) := by omega
  have q5 : (0 : Int) ≤ (j : Int) := by omega
  have q6 : (0 : Int) ≤ (k : Int) := by omega
  have q7 : (k : Int) ≤ (c2 : Int) := by omega
  have q8 : c1 ≤ 9223372036854775807 := by unfold maxLen at hm1; omega
  have q9 : c2 ≤ 9223372036854775807 := by unfold maxLen at hm2; omega
  have qa : L ≤ c1 := by omega
  have qb : L ≤ c2 := by omega
  have qc : j ≤ L := by omega
  have HS : Hid (∀ W', Below w.heap.size w W' → Below w.heap.size w W' ∧ W'.cell? ⟨R, 2, none⟩ = some (.slice (some ⟨g1, 0, none⟩) L c1)) := hide fun W' q => ⟨q, (HR.out.below q).cells.2.2.1⟩
  have E1 := hide (lit0 w).drew
  clear hq hz1 hz2 hr1 hm1 hm2 hj h1 h2 hc1 hc2
  go_enter Try.func28, Try.ntmps28
  go_wp2_with fail
  refine wp_region_noPanic ?_
  refine wp_region_last_drew (A := fun i => decide (i < 17)) (S := fun w' => Below w.heap.size w w' ∧ w'.cell? ⟨R, 2, none⟩ = some (.slice (some ⟨g1, 0, none⟩) L c1)) (by kernel_rfl) ?_ (fun hHeld => ?_)
  · exact HS.out _ (Below.refl _ _).drew
  refine wpAnyL_take (i := 0) (v := ?_) rfl (by kernel_rfl) (by kernel_rfl) (by kernel_rfl) (by kernel_rfl) (fun _ _ _ h => h) (Or.inl ⟨by rfl, ?_⟩) (by first | trivial | assumption) ?_
  rotate_left 1
  · (intro w hSw; (try dsimp only at hSw); go_simp; all_goals with_reducible rfl)
  try simp only [Act.put, List.setIfInBounds_toArray, List.set_cons_zero, List.set_cons_succ]
  refine wpAnyL_take (i := 2) (v := ?_) rfl (by kernel_rfl) (by kernel_rfl) (by kernel_rfl) (by kernel_rfl) (fun _ _ _ h => h) (Or.inl ⟨by rfl, ?_⟩) (by first | trivial | assumption) ?_
  rotate_left 1
  · (intro w hSw; (try dsimp only at hSw); go_simp; all_goals with_reducible rfl)
  try simp only [Act.put, List.setIfInBounds_toArray, List.set_cons_zero, List.set_cons_succ]
  refine wpAnyL_take (i := 3) (v := ?_) rfl (by kernel_rfl) (by kernel_rfl) (by kernel_rfl) (by kernel_rfl) (fun _ _ _ h => h) (Or.inl ⟨by rfl, ?_⟩) (by first | trivial | assumption) ?_
  rotate_left 1
  · (intro w hSw; (try dsimp only at hSw); go_simp; all_goals with_reducible rfl)
  try simp only [Act.put, List.setIfInBounds_toArray, List.set_cons_zero, List.set_cons_succ]
  refine wpAnyL_take (i := 4) (v := ?_) rfl (by kernel_rfl) (by kernel_rfl) (by kernel_rfl) (by kernel_rfl) (fun _ _ _ h => h) (Or.inl ⟨by rfl, ?_⟩) (by first | trivial | assumption) ?_
  rotate_left 1
  · (intro w hSw; (try dsimp only at hSw); go_simp; all_goals with_reducible rfl)
  try simp only [Act.put, List.setIfInBounds_toArray, List.set_cons_zero, List.set_cons_succ]
  refine wpAnyL_take (i := 5) (v := ?_) rfl (by kernel_rfl) (by kernel_rfl) (by kernel_rfl) (by kernel_rfl) (fun _ _ _ h => h) (Or.inl ⟨by rfl, ?_⟩) (by first | trivial | assumption) ?_
  rotate_left 1
  · (intro w hSw; (try dsimp only at hSw); go_simp; all_goals with_reducible rfl)
  try simp only [Act.put, List.setIfInBounds_toArray, List.set_cons_zero, List.set_cons_succ]
  refine wpAnyL_take (i := 6) (v := ?_) rfl (by kernel_rfl) (by kernel_rfl) (by kernel_rfl) (by kernel_rfl) (fun _ _ _ h => h) (Or.inl ⟨by rfl, ?_⟩) (by first | trivial | assumption) ?_
  rotate_left 1
  · (intro w hSw; (try dsimp only at hSw); go_simp; all_goals with_reducible rfl)
  try simp only [Act.put, List.setIfInBounds_toArray, List.set_cons_zero, List.set_cons_succ]
  refine wpAnyL_take (i := 7) (v := ?_) rfl (by kernel_rfl) (by kernel_rfl) (by kernel_rfl) (by kernel_rfl) (fun _ _ _ h => h) (Or.inl ⟨by rfl, ?_⟩) (by first | trivial | assumption) ?_
  rotate_left 1
  · (intro w hSw; (try dsimp only at hSw); go_simp; all_goals with_reducible rfl)
  try simp only [Act.put, List.setIfInBounds_toArray, List.set_cons_zero, List.set_cons_succ]
  refine wpAnyL_take (i := 9) (v := ?_) rfl (by kernel_rfl) (by kernel_rfl) (by kernel_rfl) (by kernel_rfl) (fun _ _ _ h => h) (Or.inl ⟨by rfl, ?_⟩) (by first | trivial | assumption) ?_
  rotate_left 1
  · (intro w hSw; (try dsimp only at hSw); go_simp; all_goals with_reducible rfl)
  try simp only [Act.put, List.setIfInBounds_toArray, List.set_cons_zero, List.set_cons_succ]
  refine wpAnyL_take (i := 10) (v := ?_) rfl (by kernel_rfl) (by kernel_rfl) (by kernel_rfl) (by kernel_rfl) (fun _ _ _ h => h) (Or.inl ⟨by rfl, ?_⟩) (by first | trivial | assumption) ?_
  rotate_left 1
  · (intro w hSw; (try dsimp only at hSw); go_simp; all_goals with_reducible rfl)
  try simp only [Act.put, List.setIfInBounds_toArray, List.set_cons_zero, List.set_cons_succ]
  refine wpAnyL_take (i := 11) (v := ?_) rfl (by kernel_rfl) (by kernel_rfl) (by kernel_rfl) (by kernel_rfl) (fun _ _ _ h => h) (Or.inl ⟨by rfl, ?_⟩) (by first | trivial | assumption) ?_
  rotate_left 1
  · (intro w hSw; (try dsimp only at hSw); go_simp; all_goals with_reducible rfl)
  try simp only [Act.put, List.setIfInBounds_toArray, List.set_cons_zero, List.set_cons_succ]
  refine wpAnyL_take (i := 12) (v := ?_) rfl (by kernel_rfl) (by kernel_rfl) (by kernel_rfl) (by kernel_rfl) (fun _ _ _ h => h) (Or.inl ⟨by rfl, ?_⟩) (by first | trivial | assumption) ?_
  rotate_left 1
  · (intro w hSw; (try dsimp only at hSw); go_simp; all_goals with_reducible rfl)
  try simp only [Act.put, List.setIfInBounds_toArray, List.set_cons_zero, List.set_cons_succ]
  refine wpAnyL_take (i := 13) (v := ?_) rfl (by kernel_rfl) (by kernel_rfl) (by kernel_rfl) (by kernel_rfl) (fun _ _ _ h => h) (Or.inl ⟨by rfl, ?_⟩) (by first | trivial | assumption) ?_
  rotate_left 1
  · (intro w hSw; (try dsimp only at hSw); go_simp; all_goals with_reducible rfl)
  try simp only [Act.put, List.setIfInBounds_toArray, List.set_cons_zero, List.set_cons_succ]
  refine wpAnyL_take (i := 14) (v := ?_) rfl (by kernel_rfl) (by kernel_rfl) (by kernel_rfl) (by kernel_rfl) (fun _ _ _ h => h) (Or.inl ⟨by rfl, ?_⟩) (by first | trivial | assumption) ?_
  rotate_left 1
  · (intro w hSw; (try dsimp only at hSw); go_simp; all_goals with_reducible rfl)
  try simp only [Act.put, List.setIfInBounds_toArray, List.set_cons_zero, List.set_cons_succ]
  refine wpAnyL_take (i := 15) (v := ?_) rfl (by kernel_rfl) (by kernel_rfl) (by kernel_rfl) (by kernel_rfl) (fun _ _ _ h => h) (Or.inl ⟨by rfl, ?_⟩) (by first | trivial | assumption) ?_
  rotate_left 1
  · (intro w hSw; (try dsimp only at hSw); go_simp; all_goals with_reducible rfl)
  try simp only [Act.put, List.setIfInBounds_toArray, List.set_cons_zero, List.set_cons_succ]
  refine wpAnyL_ready (rs := [1]) (by kernel_rfl) (by simp) ?_
  refine AllReadyL.cons rfl (fun K hK => ?_) ?_
  · go_simp
    refine hK.out _ _ ?_ (fun hHeld => ?_)
    · (first | assumption | exact HS.out _ hB6 | exact HS.out _ hB5 | (refine HS.out _ ?_; repeat (first | assumption | exact Below.refl _ _ | refine Below.alloc ?_ (by first | omega | (simp <;> omega)) _ | refine Below.drew ?_)))
    clear hK K
    try simp only [Act.put, List.setIfInBounds_toArray, List.set_cons_zero, List.set_cons_succ]
    refine wpAnyL_ready (rs := [8]) (by kernel_rfl) (by simp) ?_
    refine AllReadyL.cons rfl (fun K hK => ?_) ?_
    · (refine step_copy_z _ (by rfl) _ _ (by rfl) w.heap.size _ (by rfl) E1.out (some ⟨g1, 0, none⟩) k c1 (l1.take k) (by rfl) HT1.out (HZ1.out.below hHeld.1) (by omega) (by simp) ?_; intro a5 c5 w5 hown5 hgrow5; have hB5 : Below w.heap.size w w5 := below_own hHeld.1 E1.out hgrow5; have hz5 := hB5.size)
      refine hK.out _ _ ?_ (fun hHeld => ?_)
      · (first | assumption | exact HS.out _ hB6 | exact HS.out _ hB5 | (refine HS.out _ ?_; repeat (first | assumption | exact Below.refl _ _ | refine Below.alloc ?_ (by first | omega | (simp <;> omega)) _ | refine Below.drew ?_)))
      clear hK K
      try simp only [Act.put, List.setIfInBounds_toArray, List.set_cons_zero, List.set_cons_succ]
      refine wpAnyL_ready (rs := [16]) (by kernel_rfl) (by simp) ?_
      refine AllReadyL.cons rfl (fun K hK => ?_) ?_
      · (refine step_append_z _ (by rfl) _ _ (by rfl) w.heap.size _ k (l1.take k) (by rfl) hown5 (some A1) (L - j) (c1 - j) (l1.drop j) (by rfl) HD1.out (HZ2.out.below hB5) (by omega) (by exact hz5) ?_; intro a6 c6 w6 hown6 hgrow6 _; have hB6 : Below w.heap.size w w6 := below_own hB5 hown5 hgrow6; have rf6 := (HR.out.below hB6).cells.2.2.2.2 2)
        refine hK.out _ _ ?_ (fun hHeld => ?_)
        · (first | assumption | exact HS.out _ hB6 | exact HS.out _ hB5 | (refine HS.out _ ?_; repeat (first | assumption | exact Below.refl _ _ | refine Below.alloc ?_ (by first | omega | (simp <;> omega)) _ | refine Below.drew ?_)))
        clear hK K
        try simp only [Act.put, List.setIfInBounds_toArray, List.set_cons_zero, List.set_cons_succ]
        refine wpAnyL_takeP (i := 17) (v := ?_) rfl (by kernel_rfl) (by kernel_rfl) (by kernel_rfl) (by kernel_rfl) (fun _ _ _ h => h) (Or.inl ⟨by rfl, ?_⟩) ?_
        rotate_left 1
        · (intro w hSw; (try dsimp only at hSw); go_simp; all_goals with_reducible rfl)
        try simp only [Act.put, List.setIfInBounds_toArray, List.set_cons_zero, List.set_cons_succ]
        refine wpAnyL_takeP (i := 18) (v := ?_) rfl (by kernel_rfl) (by kernel_rfl) (by kernel_rfl) (by kernel_rfl) (fun _ _ _ h => h) (Or.inl ⟨by rfl, ?_⟩) ?_
        rotate_left 1
        · (intro w hSw; (try dsimp only at hSw); go_simp; all_goals with_reducible rfl)
        try simp only [Act.put, List.setIfInBounds_toArray, List.set_cons_zero, List.set_cons_succ]
        refine wpAnyL_ready (rs := [19]) (by kernel_rfl) (by simp) ?_
        refine AllReadyL.last rfl (by kernel_rfl) (fun K hK => ?_)
        go_simp
        refine hK.out _ _ ?_
        clear hK K
        try simp only [Act.put, List.setIfInBounds_toArray, List.set_cons_zero, List.set_cons_succ]
        refine wpAnyL_done (by kernel_rfl) ?_ _
        refine NoPanic.normal ?_
        obtain ⟨hX1, hX2, hX3⟩ := NowQ.setA (a := .slice a6 (k + (L - j)) c6) (l := l1.take k ++ l1.drop j) HR.out hbs hB6 (by rw [List.length_append, HT1.out, HD1.out]; exact hown6)
        obtain ⟨W1, hW1⟩ : ∃ W1, W1 = w6.setCell ⟨R, 2, none⟩ (.slice a6 (k + (L - j)) c6) := ⟨_, rfl⟩
        rw [← hW1] at hX1 hX2 ⊢
        have hrb1 := hX1.rb
        dsimp only at hrb1
        rw [H2.out] at hrb1
        have hz2 : RowZ W1 (some ⟨g2, 0, none⟩) l2 := owns_rowZ (c := c2) (l := l2) (by rw [H2.out]; exact hrb1)
        obtain ⟨A2, hA2, hr2⟩ := rest_z (c := c2) (j := j) H2.out qc (by omega) hz2
        have HZ4 := hide (hr2 qb)
        have HZ3 : Hid (RowZ W1 (some ⟨g2, 0, none⟩) (l2.take k)) := hide (take_z hz2 (by rw [H2.out]; omega) k)
        have HX1 := hide hX1
        have HX2 := hide hX2
        have HX3 := hide hX3
        have hbs1 : base ≤ W1.heap.size := Nat.le_trans hbs hX2.size
        have HS1 : Hid (∀ W', Below W1.heap.size W1 W' → Below W1.heap.size W1 W' ∧ W'.cell? ⟨R, 3, none⟩ = some (.slice (some ⟨g2, 0, none⟩) L c2)) := hide fun W' q => ⟨q, (HX1.out.below q).cells.2.2.2.1⟩
        have E2 := hide (lit0 W1).drew
        clear hX1 hX2 hX3 hW1 hrb1 hz2 hr2 hown5 hgrow5 hown6 hgrow6 hB5 hB6 hz5 rf6 hHeld E1 HS hA1 HZ1 HZ2 HT1 HD1
        go_wp2_with fail
        refine wp_region_noPanic ?_
        refine wp_region_last_drew (A := fun i => decide (i < 17)) (S := fun w' => Below W1.heap.size W1 w' ∧ w'.cell? ⟨R, 3, none⟩ = some (.slice (some ⟨g2, 0, none⟩) L c2)) (by kernel_rfl) ?_ (fun hHeld => ?_)
        · exact HS1.out _ (Below.refl _ _).drew
        refine wpAnyL_take (i := 0) (v := ?_) rfl (by kernel_rfl) (by kernel_rfl) (by kernel_rfl) (by kernel_rfl) (fun _ _ _ h => h) (Or.inl ⟨by rfl, ?_⟩) (by first | trivial | assumption) ?_
        rotate_left 1
        · (intro w hSw; (try dsimp only at hSw); go_simp; all_goals with_reducible rfl)
        try simp only [Act.put, List.setIfInBounds_toArray, List.set_cons_zero, List.set_cons_succ]
        refine wpAnyL_take (i := 2) (v := ?_) rfl (by kernel_rfl) (by kernel_rfl) (by kernel_rfl) (by kernel_rfl) (fun _ _ _ h => h) (Or.inl ⟨by rfl, ?_⟩) (by first | trivial | assumption) ?_
        rotate_left 1
        · (intro w hSw; (try dsimp only at hSw); go_simp; all_goals with_reducible rfl)
        try simp only [Act.put, List.setIfInBounds_toArray, List.set_cons_zero, List.set_cons_succ]
        refine wpAnyL_take (i := 3) (v := ?_) rfl (by kernel_rfl) (by kernel_rfl) (by kernel_rfl) (by kernel_rfl) (fun _ _ _ h => h) (Or.inl ⟨by rfl, ?_⟩) (by first | trivial | assumption) ?_
        rotate_left 1
        · (intro w hSw; (try dsimp only at hSw); go_simp; all_goals with_reducible rfl)
        try simp only [Act.put, List.setIfInBounds_toArray, List.set_cons_zero, List.set_cons_succ]
        refine wpAnyL_take (i := 4) (v := ?_) rfl (by kernel_rfl) (by kernel_rfl) (by kernel_rfl) (by kernel_rfl) (fun _ _ _ h => h) (Or.inl ⟨by rfl, ?_⟩) (by first | trivial | assumption) ?_
        rotate_left 1
        · (intro w hSw; (try dsimp only at hSw); go_simp; all_goals with_reducible rfl)
        try simp only [Act.put, List.setIfInBounds_toArray, List.set_cons_zero, List.set_cons_succ]
        refine wpAnyL_take (i := 5) (v := ?_) rfl (by kernel_rfl) (by kernel_rfl) (by kernel_rfl) (by kernel_rfl) (fun _ _ _ h => h) (Or.inl ⟨by rfl, ?_⟩) (by first | trivial | assumption) ?_
        rotate_left 1
        · (intro w hSw; (try dsimp only at hSw); go_simp; all_goals with_reducible rfl)
        try simp only [Act.put, List.setIfInBounds_toArray, List.set_cons_zero, List.set_cons_succ]
        refine wpAnyL_take (i := 6) (v := ?_) rfl (by kernel_rfl) (by kernel_rfl) (by kernel_rfl) (by kernel_rfl) (fun _ _ _ h => h) (Or.inl ⟨by rfl, ?_⟩) (by first | trivial | assumption) ?_
        rotate_left 1
        · (intro w hSw; (try dsimp only at hSw); go_simp; all_goals with_reducible rfl)
        try simp only [Act.put, List.setIfInBounds_toArray, List.set_cons_zero, List.set_cons_succ]
        refine wpAnyL_take (i := 7) (v := ?_) rfl (by kernel_rfl) (by kernel_rfl) (by kernel_rfl) (by kernel_rfl) (fun _ _ _ h => h) (Or.inl ⟨by rfl, ?_⟩) (by first | trivial | assumption) ?_
        rotate_left 1
        · (intro w hSw; (try dsimp only at hSw); go_simp; all_goals with_reducible rfl)
        try simp only [Act.put, List.setIfInBounds_toArray, List.set_cons_zero, List.set_cons_succ]
        refine wpAnyL_take (i := 9) (v := ?_) rfl (by kernel_rfl) (by kernel_rfl) (by kernel_rfl) (by kernel_rfl) (fun _ _ _ h => h) (Or.inl ⟨by rfl, ?_⟩) (by first | trivial | assumption) ?_
        rotate_left 1
        · (intro w hSw; (try dsimp only at hSw); go_simp; all_goals with_reducible rfl)
        try simp only [Act.put, List.setIfInBounds_toArray, List.set_cons_zero, List.set_cons_succ]
        refine wpAnyL_take (i := 10) (v := ?_) rfl (by kernel_rfl) (by kernel_rfl) (by kernel_rfl) (by kernel_rfl) (fun _ _ _ h => h) (Or.inl ⟨by rfl, ?_⟩) (by first | trivial | assumption) ?_
        rotate_left 1
        · (intro w hSw; (try dsimp only at hSw); go_simp; all_goals with_reducible rfl)
        try simp only [Act.put, List.setIfInBounds_toArray, List.set_cons_zero, List.set_cons_succ]
        refine wpAnyL_take (i := 11) (v := ?_) rfl (by kernel_rfl) (by kernel_rfl) (by kernel_rfl) (by kernel_rfl) (fun _ _ _ h => h) (Or.inl ⟨by rfl, ?_⟩) (by first | trivial | assumption) ?_
        rotate_left 1
        · (intro w hSw; (try dsimp only at hSw); go_simp; all_goals with_reducible rfl)
        try simp only [Act.put, List.setIfInBounds_toArray, List.set_cons_zero, List.set_cons_succ]
        refine wpAnyL_take (i := 12) (v := ?_) rfl (by kernel_rfl) (by kernel_rfl) (by kernel_rfl) (by kernel_rfl) (fun _ _ _ h => h) (Or.inl ⟨by rfl, ?_⟩) (by first | trivial | assumption) ?_
        rotate_left 1
        · (intro w hSw; (try dsimp only at hSw); go_simp; all_goals with_reducible rfl)
        try simp only [Act.put, List.setIfInBounds_toArray, List.set_cons_zero, List.set_cons_succ]
        refine wpAnyL_take (i := 13) (v := ?_) rfl (by kernel_rfl) (by kernel_rfl) (by kernel_rfl) (by kernel_rfl) (fun _ _ _ h => h) (Or.inl ⟨by rfl, ?_⟩) (by first | trivial | assumption) ?_
        rotate_left 1
        · (intro w hSw; (try dsimp only at hSw); go_simp; all_goals with_reducible rfl)
        try simp only [Act.put, List.setIfInBounds_toArray, List.set_cons_zero, List.set_cons_succ]
        refine wpAnyL_take (i := 14) (v := ?_) rfl (by kernel_rfl) (by kernel_rfl) (by kernel_rfl) (by kernel_rfl) (fun _ _ _ h => h) (Or.inl ⟨by rfl, ?_⟩) (by first | trivial | assumption) ?_
        rotate_left 1
        · (intro w hSw; (try dsimp only at hSw); go_simp; all_goals with_reducible rfl)
        try simp only [Act.put, List.setIfInBounds_toArray, List.set_cons_zero, List.set_cons_succ]
        refine wpAnyL_take (i := 15) (v := ?_) rfl (by kernel_rfl) (by kernel_rfl) (by kernel_rfl) (by kernel_rfl) (fun _ _ _ h => h) (Or.inl ⟨by rfl, ?_⟩) (by first | trivial | assumption) ?_
        rotate_left 1
        · (intro w hSw; (try dsimp only at hSw); go_simp; all_goals with_reducible rfl)
        try simp only [Act.put, List.setIfInBounds_toArray, List.set_cons_zero, List.set_cons_succ]
        refine wpAnyL_ready (rs := [1]) (by kernel_rfl) (by simp) ?_
        refine AllReadyL.cons rfl (fun K hK => ?_) ?_
        · go_simp
          refine hK.out _ _ ?_ (fun hHeld => ?_)
          · (first | assumption | exact HS1.out _ hB6 | exact HS1.out _ hB5 | (refine HS1.out _ ?_; repeat (first | assumption | exact Below.refl _ _ | refine Below.alloc ?_ (by first | omega | (simp <;> omega)) _ | refine Below.drew ?_)))
          clear hK K
          try simp only [Act.put, List.setIfInBounds_toArray, List.set_cons_zero, List.set_cons_succ]
          refine wpAnyL_ready (rs := [8]) (by kernel_rfl) (by simp) ?_
          refine AllReadyL.cons rfl (fun K hK => ?_) ?_
          · (refine step_copy_z _ (by rfl) _ _ (by rfl) W1.heap.size _ (by rfl) E2.out (some ⟨g2, 0, none⟩) k c2 (l2.take k) (by rfl) HT2.out (HZ3.out.below hHeld.1) (by omega) (by simp) ?_; intro a5 c5 w5 hown5 hgrow5; have hB5 : Below W1.heap.size W1 w5 := below_own hHeld.1 E2.out hgrow5; have hz5 := hB5.size)
            refine hK.out _ _ ?_ (fun hHeld => ?_)
            · (first | assumption | exact HS1.out _ hB6 | exact HS1.out _ hB5 | (refine HS1.out _ ?_; repeat (first | assumption | exact Below.refl _ _ | refine Below.alloc ?_ (by first | omega | (simp <;> omega)) _ | refine Below.drew ?_)))
            clear hK K
            try simp only [Act.put, List.setIfInBounds_toArray, List.set_cons_zero, List.set_cons_succ]
            refine wpAnyL_ready (rs := [16]) (by kernel_rfl) (by simp) ?_
            refine AllReadyL.cons rfl (fun K hK => ?_) ?_
            · (refine step_append_z _ (by rfl) _ _ (by rfl) W1.heap.size _ k (l2.take k) (by rfl) hown5 (some A2) (L - j) (c2 - j) (l2.drop j) (by rfl) HD2.out (HZ4.out.below hB5) (by omega) (by exact hz5) ?_; intro a6 c6 w6 hown6 hgrow6 _; have hB6 : Below W1.heap.size W1 w6 := below_own hB5 hown5 hgrow6; have rf6 := (HX1.out.below hB6).cells.2.2.2.2 3)
              refine hK.out _ _ ?_ (fun hHeld => ?_)
              · (first | assumption | exact HS1.out _ hB6 | exact HS1.out _ hB5 | (refine HS1.out _ ?_; repeat (first | assumption | exact Below.refl _ _ | refine Below.alloc ?_ (by first | omega | (simp <;> omega)) _ | refine Below.drew ?_)))
              clear hK K
              try simp only [Act.put, List.setIfInBounds_toArray, List.set_cons_zero, List.set_cons_succ]
              refine wpAnyL_takeP (i := 17) (v := ?_) rfl (by kernel_rfl) (by kernel_rfl) (by kernel_rfl) (by kernel_rfl) (fun _ _ _ h => h) (Or.inl ⟨by rfl, ?_⟩) ?_
              rotate_left 1
              · (intro w hSw; (try dsimp only at hSw); go_simp; all_goals with_reducible rfl)
              try simp only [Act.put, List.setIfInBounds_toArray, List.set_cons_zero, List.set_cons_succ]
              refine wpAnyL_takeP (i := 18) (v := ?_) rfl (by kernel_rfl) (by kernel_rfl) (by kernel_rfl) (by kernel_rfl) (fun _ _ _ h => h) (Or.inl ⟨by rfl, ?_⟩) ?_
              rotate_left 1
              · (intro w hSw; (try dsimp only at hSw); go_simp; all_goals with_reducible rfl)
              try simp only [Act.put, List.setIfInBounds_toArray, List.set_cons_zero, List.set_cons_succ]
              refine wpAnyL_ready (rs := [19]) (by kernel_rfl) (by simp) ?_
              refine AllReadyL.last rfl (by kernel_rfl) (fun K hK => ?_)
              go_simp
              refine hK.out _ _ ?_
              clear hK K
              try simp only [Act.put, List.setIfInBounds_toArray, List.set_cons_zero, List.set_cons_succ]
              refine wpAnyL_done (by kernel_rfl) ?_ _
              refine NoPanic.normal ?_
              obtain ⟨hY1, hY2, hY3⟩ := NowQ.setB (a := .slice a6 (k + (L - j)) c6) (l := l2.take k ++ l2.drop j) HX1.out hbs1 hB6 (by rw [List.length_append, HT2.out, HD2.out]; exact hown6)
              have HZZ := hide (HFIN.out _ (NowQ.next HX2.out HX3.out ⟨_, hY1, hY2, hY3⟩))
              clear hY1 hY2 hY3 hown5 hgrow5 hown6 hgrow6 hB5 hB6 hz5 rf6 hHeld E2 HS1 hA2 HZ3 HZ4 HT2 HD2 HX1 HX2 HX3
              go_wp2
              go_end0
              exact ⟨rfl, HZZ.out⟩
            exact AllReadyL.nil
          exact AllReadyL.nil
        exact AllReadyL.nil
      exact AllReadyL.nil
    exact AllReadyL.nil
  exact AllReadyL.nil

end Go.Proofs.Ytgldhlcdnijecaa
