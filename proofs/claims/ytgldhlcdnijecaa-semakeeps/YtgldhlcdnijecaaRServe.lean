/-
  What the document's serve comes to.
-/
import Derived.Test.YtgldhlcdnijecaaOut
namespace Go.Proofs.Ytgldhlcdnijecaa
open Go.RowKit

/-- What there is behind a call of the document's that answers who was served. -/
def NowD (R base : Nat) (u : Vs) (s : Sm) (l : List Int) (w : World) (r : Value) (w' : World) : Prop := NowR R base u s w w' ∧ w'.ownsRow w.heap.size 3 1 r l.length (cZ l)
theorem NowD.below {w w1 w2 : World} {R base : Nat} {u : Vs} {r : Value} {s : Sm} {l : List Int} (h : NowD R base u s l w r w1) (k : Below w1.heap.size w1 w2) : NowD R base u s l w r w2 :=
  ⟨h.1.trans fun _ hv => NowR.same hv k, owns_below h.2 k⟩
theorem NowD.none {w w' : World} {R base : Nat} {u : Vs} {s : Sm} (k : NowR R base u s w w') : NowD R base u s [] w (.slice none 0 0) w' := ⟨k, World.ownsRow_nil _ _ _ _⟩
/-- Where a round of it stands. -/
structure AtD (w : World) (R base : Nat) (u : Vs) (s : Sm) (l1 : List Int) (r : Value) (s2 : Sm) (wr : World) : Prop where
  now : ∃ u2, AtR wr R base u2 s2 ∧ Mov (MineR R u) w wr ∧ (∀ j, MineR R u2 j → w.heap.size ≤ j ∨ MineR R u j) ∧ ∀ k, r.ownBlock = some k → ¬ MineR R u2 k
  row : wr.ownsRow w.heap.size 3 1 r l1.length (cZ l1)
  ok : Okw s2
  len : l1.length + s2.q.length = s.q.length
  out : serveO s = l1 ++ serveO s2
  left : serveS s = serveS s2
theorem AtD.fin {w wr : World} {R base : Nat} {u : Vs} {r : Value} {s s2 : Sm} {l1 : List Int} (h : AtD w R base u s l1 r s2 wr) (hn : ∀ x, s2.q.head? = some x → s2.f < x.u) : NowD R base u (serveS s) (serveO s) w r wr := by
  obtain ⟨e1, e2⟩ := serve_none (n := s2.n) hn
  have e1' : serveO s2 = [] := e1
  have e2' : serveS s2 = s2 := e2
  rw [h.out, h.left, e1', e2', List.append_nil]
  obtain ⟨u2, k1, k2, k3, _⟩ := h.now
  exact ⟨⟨u2, k1, k2, k3⟩, h.row⟩
theorem rows_first {w : World} {base : Nat} {v : Value} {L : Nat} {x : Int} {l : List Int} (h : w.ownsRow base 3 1 v (L + 1) (cZ (x :: l))) (hl : l.length = L) : ∃ g c, v = .slice (some ⟨g, 0, none⟩) (L + 1) c ∧ g < w.heap.size ∧ w.cell? ⟨g, 0, none⟩ = some (.int .i64 x) := by
  obtain ⟨g, c, h1, _, h2, h3, _⟩ := row_open (l := x :: l) (by rw [List.length_cons, hl]; exact h) (by simp)
  rw [List.length_cons, hl] at h1
  exact ⟨g, c, h1, h2, (h3 0 (by simp)).1⟩

set_option maxRecDepth 4000 in
set_option maxHeartbeats 2000000 in
set_option linter.unusedSimpArgs false in
theorem rserve_any (R base : Nat) (u : Vs) (s : Sm) (hO : Okw s) (hl : s.q.length ≤ 1000) (w : World) (hR : AtR w R base u s) (hbs : base ≤ w.heap.size) :
    Calls Try.prog 29 #[.pointer (some ⟨R, 0, none⟩)] w fun e w' => ∃ r, e = .returned r ∧ NowD R base u (serveS s) (serveO s) w r w' := by
  obtain ⟨i3, hi, hz0, hz1, hz2⟩ := info_parts info3
  have H0 : Hid (AtD w R base u s [] (.slice (some ⟨w.heap.size, 0, none⟩) ([] : List Int).length 0) s (w.alloc (.cells #[] 3))) :=
    ⟨⟨u, hR.below (below1 _ _), Mov.of_below (below1 _ _), fun _ hk => Or.inr hk, fun k hk hm => by
      have e : w.heap.size = k := by simpa [Value.ownBlock] using hk
      have := hR.mine_lt hm
      omega⟩, lit0 w, hO, by simp, rfl, rfl⟩
  clear hR hO
  obtain ⟨n0, hn0⟩ : ∃ n0, s.q.length = n0 := ⟨_, rfl⟩
  have HN0 := hide hn0
  rw [hn0] at hl
  clear hn0
  go_enter Try.func29, Try.ntmps29
  go_wp2
  go_loopw [3] (fun v3 wr => ∃ l1 s2 a d, v3 = .slice a l1.length d ∧ Hid (AtD w R base u s l1 (.slice a l1.length d) s2 wr)) (fun v3 _ => n0 - lenV v3)
  case atStart => exact ⟨[], s, _, _, rfl, H0⟩
  case round =>
    clear H0
    obtain ⟨l1, s2, a, d, rfl, HA⟩ := hrel
    obtain ⟨u2, hA2, hV2, hW2, hX2⟩ := HA.out.now
    obtain ⟨c0, c1, c2, c3, cf⟩ := hA2.cells
    have cf1 := cf 1
    have hRl := hA2.lt
    obtain ⟨n, f, q⟩ := s2
    obtain ⟨ua, ub⟩ := u2
    dsimp only at c0 c1 c2 c3
    obtain ⟨K, hK⟩ : ∃ K, n - f = K := ⟨_, rfl⟩
    have HK := hide hK
    rw [hK] at c1
    cases q with
    | nil =>
      have HF := hide (HA.out.fin (fun x h => by simp at h))
      obtain ⟨a1, d1, h1⟩ := owns_slice hA2.ra
      dsimp only at h1
      rw [h1] at c2
      dsimp only [List.length_nil] at c2
      clear hA2 hV2 hW2 hX2 cf HA h1 hK
      go_wp2_with fail
      go_quiet (fail)
      go_wp2
      go_ret
      exact ⟨_, rfl, HF.out.below (below_drewN _ _)⟩
    | cons y q =>
      obtain ⟨t, x⟩ := y
      obtain ⟨L, hL⟩ : ∃ L, q.length = L := ⟨_, rfl⟩
      have HL := hide hL
      have hra := hA2.ra
      have hrb := hA2.rb
      dsimp only [List.length_cons] at hra hrb
      rw [hL] at hra hrb
      obtain ⟨g1, ac1, e1, hg1, p0⟩ := rows_first (l := ts q) (x := t) hra (by rw [ts_len]; exact hL)
      obtain ⟨g2, ac2, e2, hg2, p1⟩ := rows_first (l := us q) (x := x) hrb (by rw [us_len]; exact hL)
      subst e1
      subst e2
      have i1 : (0 : Int) < ((L + 1 : Nat) : Int) := by omega
      have ok := HA.out.ok
      have hu := ok.us ⟨t, x⟩ List.mem_cons_self
      have hw64 : IntKind.i64.wrap (K + x) = K + x := wrapB (by have := ok.f0; have := ok.fn; have := ok.n16; have := hu.1; have := hu.2; dsimp only at *; omega)
      obtain ⟨E, hE⟩ : ∃ E, K + x = E := ⟨_, rfl⟩
      have HE := hide hE
      rw [hE] at hw64
      have hw65 : IntKind.i64.wrap (K + x) = E := by rw [hE]; exact hw64
      by_cases hle : x ≤ f
      · have d1 : decide (E ≤ n) = true := decide_eq_true (by omega)
        have HM := hide hA2
        have HV := hide hV2
        have HW := hide hW2
        have HX := hide hX2
        have hgR1 : g1 ≠ R := fun e => hA2.far.1 (by rw [e]; rfl)
        clear hA2 hV2 hW2 hX2 cf hL hu ok hw64 hra hrb hK hE
        go_wp2_with fail
        go_quiet (fail)
        go_wp2_with fail
        refine wp_region_noPanic ?_
        refine wp_region_last_drew (A := fun i => decide (i < 11)) (S := fun w' => w'.cell? ⟨R, 1, none⟩ = some (.int .i64 K) ∧ w'.cell? ⟨R, 3, none⟩ = some (.slice (some ⟨g2, 0, none⟩) (L + 1) ac2) ∧ w'.cell? ⟨g2, 0, none⟩ = some (.int .i64 x)) (by kernel_rfl) ?_ (fun hHeld => ?_)
        · exact ⟨c1, c3, p1⟩
        refine wpAnyL_take (i := 0) (v := ?_) rfl (by kernel_rfl) (by kernel_rfl) (by kernel_rfl) (by kernel_rfl) (fun _ _ _ h => h) (Or.inl ⟨by rfl, ?_⟩) (by first | trivial | assumption) ?_
        rotate_left 1
        · (intro w hSw; (try dsimp only at hSw); go_simp; all_goals with_reducible rfl)
        try simp only [Act.put, List.setIfInBounds_toArray, List.set_cons_zero, List.set_cons_succ]
        refine wpAnyL_take (i := 1) (v := ?_) rfl (by kernel_rfl) (by kernel_rfl) (by kernel_rfl) (by kernel_rfl) (fun _ _ _ h => h) (Or.inl ⟨by rfl, ?_⟩) (by first | trivial | assumption) ?_
        rotate_left 1
        · (intro w hSw; (try dsimp only at hSw); go_simp; all_goals with_reducible rfl)
        try simp only [Act.put, List.setIfInBounds_toArray, List.set_cons_zero, List.set_cons_succ]
        refine wpAnyL_take (i := 2) (v := ?_) rfl (by kernel_rfl) (by kernel_rfl) (by kernel_rfl) (by kernel_rfl) (fun _ _ _ h => h) (Or.inl ⟨by rfl, ?_⟩) (by first | trivial | assumption) ?_
        rotate_left 1
        · (intro w hSw; (try dsimp only at hSw); go_simp; all_goals with_reducible rfl)
        try simp only [Act.put, List.setIfInBounds_toArray, List.set_cons_zero, List.set_cons_succ]
        refine wpAnyL_take (i := 3) (v := ?_) rfl (by kernel_rfl) (by kernel_rfl) (by kernel_rfl) (by kernel_rfl) (fun _ _ _ h => h) (Or.inl ⟨by rfl, ?_⟩) (by first | trivial | assumption) ?_
        rotate_left 1
        · (intro w hSw; (try dsimp only at hSw); go_simp; all_goals with_reducible rfl)
        try simp only [Act.put, List.setIfInBounds_toArray, List.set_cons_zero, List.set_cons_succ]
        refine wpAnyL_take (i := 4) (v := ?_) rfl (by kernel_rfl) (by kernel_rfl) (by kernel_rfl) (by kernel_rfl) (fun _ _ _ h => h) (Or.inl ⟨by rfl, ?_⟩) (by first | trivial | assumption) ?_
        rotate_left 1
        · (intro w hSw; (try dsimp only at hSw); go_simp; all_goals with_reducible rfl)
        try simp only [Act.put, List.setIfInBounds_toArray, List.set_cons_zero, List.set_cons_succ]
        refine wpAnyL_take (i := 5) (v := ?_) rfl (by kernel_rfl) (by kernel_rfl) (by kernel_rfl) (by kernel_rfl) (fun _ _ _ h => h) (Or.inl ⟨by rfl, ?_⟩) (by first | trivial | assumption) ?_
        rotate_left 1
        · (intro w hSw; (try dsimp only at hSw); go_simp; all_goals with_reducible rfl)
        try simp only [Act.put, List.setIfInBounds_toArray, List.set_cons_zero, List.set_cons_succ]
        refine wpAnyL_take (i := 6) (v := ?_) rfl (by kernel_rfl) (by kernel_rfl) (by kernel_rfl) (by kernel_rfl) (fun _ _ _ h => h) (Or.inl ⟨by rfl, ?_⟩) (by first | trivial | assumption) ?_
        rotate_left 1
        · (intro w hSw; (try dsimp only at hSw); go_simp; all_goals with_reducible rfl)
        try simp only [Act.put, List.setIfInBounds_toArray, List.set_cons_zero, List.set_cons_succ]
        refine wpAnyL_take (i := 7) (v := ?_) rfl (by kernel_rfl) (by kernel_rfl) (by kernel_rfl) (by kernel_rfl) (fun _ _ _ h => h) (Or.inl ⟨by rfl, ?_⟩) (by first | trivial | assumption) ?_
        rotate_left 1
        · (intro w hSw; (try dsimp only at hSw); go_simp; all_goals with_reducible rfl)
        try simp only [Act.put, List.setIfInBounds_toArray, List.set_cons_zero, List.set_cons_succ]
        refine wpAnyL_take (i := 8) (v := ?_) rfl (by kernel_rfl) (by kernel_rfl) (by kernel_rfl) (by kernel_rfl) (fun _ _ _ h => h) (Or.inl ⟨by rfl, ?_⟩) (by first | trivial | assumption) ?_
        rotate_left 1
        · (intro w hSw; (try dsimp only at hSw); go_simp; all_goals with_reducible rfl)
        try simp only [Act.put, List.setIfInBounds_toArray, List.set_cons_zero, List.set_cons_succ]
        refine wpAnyL_take (i := 9) (v := ?_) rfl (by kernel_rfl) (by kernel_rfl) (by kernel_rfl) (by kernel_rfl) (fun _ _ _ h => h) (Or.inl ⟨by rfl, ?_⟩) (by first | trivial | assumption) ?_
        rotate_left 1
        · (intro w hSw; (try dsimp only at hSw); go_simp; all_goals with_reducible rfl)
        try simp only [Act.put, List.setIfInBounds_toArray, List.set_cons_zero, List.set_cons_succ]
        refine wpAnyL_take (i := 10) (v := ?_) rfl (by kernel_rfl) (by kernel_rfl) (by kernel_rfl) (by kernel_rfl) (fun _ _ _ h => h) (Or.inl ⟨by rfl, ?_⟩) (by first | trivial | assumption) ?_
        rotate_left 1
        · (intro w hSw; (try dsimp only at hSw); go_simp; all_goals with_reducible rfl)
        try simp only [Act.put, List.setIfInBounds_toArray, List.set_cons_zero, List.set_cons_succ]
        refine wpAnyL_takeP (i := 11) (v := ?_) rfl (by kernel_rfl) (by kernel_rfl) (by kernel_rfl) (by kernel_rfl) (fun _ _ _ h => h) (Or.inl ⟨by rfl, ?_⟩) ?_
        rotate_left 1
        · (intro w hSw; (try dsimp only at hSw); go_simp; all_goals with_reducible rfl)
        try simp only [Act.put, List.setIfInBounds_toArray, List.set_cons_zero, List.set_cons_succ]
        refine wpAnyL_takeP (i := 12) (v := ?_) rfl (by kernel_rfl) (by kernel_rfl) (by kernel_rfl) (by kernel_rfl) (fun _ _ _ h => h) (Or.inl ⟨by rfl, ?_⟩) ?_
        rotate_left 1
        · (intro w hSw; (try dsimp only at hSw); go_simp; all_goals with_reducible rfl)
        try simp only [Act.put, List.setIfInBounds_toArray, List.set_cons_zero, List.set_cons_succ]
        refine wpAnyL_ready (rs := [13]) (by kernel_rfl) (by simp) ?_
        refine AllReadyL.last rfl (by kernel_rfl) (fun K hK => ?_)
        go_simp
        refine hK.out _ _ ?_
        clear hK K
        try simp only [Act.put, List.setIfInBounds_toArray, List.set_cons_zero, List.set_cons_succ]
        refine wpAnyL_done (by kernel_rfl) ?_ _
        refine NoPanic.normal ?_
        clear hHeld
        obtain ⟨W1, hW1⟩ : ∃ W1, W1 = (wr.drewN (nq + 1)).setCell ⟨R, 1, none⟩ (.int .i64 E) := ⟨_, rfl⟩
        rw [← hW1]
        obtain ⟨D, hD⟩ : ∃ D, f - x = D := ⟨_, rfl⟩
        have hA0 := HM.out.below (below_drewN wr (nq + 1))
        have hR1 : W1.ownsRow w.heap.size 3 1 (.slice a l1.length d) l1.length (cZ l1) := by
          rw [hW1]
          have := owns_below HA.out.row (below_drewN wr (nq + 1))
          exact row_set this (row_box this hA0.box (by decide))
        have hA1 : AtR W1 R base ⟨.slice (some ⟨g1, 0, none⟩) (L + 1) ac1, .slice (some ⟨g2, 0, none⟩) (L + 1) ac2⟩ ⟨n, D, ⟨t, x⟩ :: q⟩ := by
          rw [hW1]
          have := hA0.setF D
          have e : n - D = E := by have := HK.out; have := HE.out; omega
          dsimp only at this
          rw [e] at this
          exact this
        have hV1 : Mov (MineR R u) w W1 := by
          rw [hW1]
          refine HV.out.thn (T := fun k => k = R) ((Mov.of_below (S := fun k => k = R) (below_drewN wr (nq + 1))).set (p := ⟨R, 1, none⟩) rfl _) ?_
          rintro k rfl
          exact HW.out _ (Or.inl rfl)
        obtain ⟨N, hN⟩ : ∃ N, l1.length = N := ⟨_, rfl⟩
        have HN := hide hN
        have hN1 : N ≤ 1000 := by have := HA.out.len; rw [HN0.out, hN] at this; omega
        have HX1 : Hid (∀ k, (Value.slice a N d).ownBlock = some k → ¬ MineR R ⟨.slice (some ⟨g1, 0, none⟩) (L + 1) ac1, .slice (some ⟨g2, 0, none⟩) (L + 1) ac2⟩ k) := by rw [← hN]; exact HX.out
        rw [hN] at hR1 ⊢
        have HOK := hide HA.out.ok
        have HLEN := hide HA.out.len
        have HO1 := hide HA.out.out
        have HO2 := hide HA.out.left
        have HR1 := hide hR1
        have HA1 := hide hA1
        have HV1 := hide hV1
        have HD := hide hD
        have q1 : W1.cell? ⟨R, 2, none⟩ = some (.slice (some ⟨g1, 0, none⟩) (L + 1) ac1) := hA1.cells.2.2.1
        have q0 : W1.cell? ⟨g1, 0, none⟩ = some (.int .i64 t) := by
          rw [hW1, World.cell?_setCell_other _ _ _ _ (by intro e; exact hgR1 (by injection e with e1; exact e1.symm))]
          exact p0
        have hzw := hV1.size
        have b1 : N + 1 ≤ maxLen := by unfold maxLen; omega
        have b2 : (N + 1) * 8 ≤ 140737488355328 := by omega
        have HLE := hide hle
        clear hW1 hA0 hR1 hA1 hV1 hN HA c0 c1 c2 c3 p0 p1 cf1 HM HV hRl d1 HX hw65 hD hle
        go_wp2_with (at_builtin; refine wpList_append_own_at _ rfl _ _ 31 rfl w.heap.size 3 i3 (.int .i64 0) 1 8 Try.underlying31 hi hz0 hz1 hz2 rfl (by decide) _ _ _ rfl (HR1.out.alloc _) ⟨W1.heap.size, 0, none⟩ 1 1 [.int .i64 t] rfl rfl (newsI (by simp [go_sem])) (onesI _) b1 b2 (by simp; omega) ?_)
        intro v' w3 hown hgrow _ hat
        obtain ⟨av', ac', rfl⟩ := owns_slice hown
        have hm3 := grown_mov hgrow
        have hA3 : AtR w3 R base ⟨.slice (some ⟨g1, 0, none⟩) (L + 1) ac1, .slice (some ⟨g2, 0, none⟩) (L + 1) ac2⟩ ⟨n, D, ⟨t, x⟩ :: q⟩ := HA1.out.keep fun k hk => hm3.block k (HA1.out.mine_lt hk) (fun e => HX1.out k e hk)
        have hV3 : Mov (MineR R u) w w3 := HV1.out.thn hm3 (fun k hk => Or.inl (HR1.out.lt k hk).1)
        have hX3 : ∀ k, (Value.slice av' (N + 1) ac').ownBlock = some k → ¬ MineR R ⟨.slice (some ⟨g1, 0, none⟩) (L + 1) ac1, .slice (some ⟨g2, 0, none⟩) (L + 1) ac2⟩ k := fun k hk hm => by
          rcases grown_at (by simpa using hat) k hk with e | e
          · have := HA1.out.mine_lt hm; omega
          · exact HX1.out k e hm
        have HD0 : Hid (Calls Try.prog 28 #[.pointer (some ⟨R, 0, none⟩), .int .i64 0] w3 fun e w' => e = .returned (.tuple #[]) ∧ NowR R base ⟨.slice (some ⟨g1, 0, none⟩) (L + 1) ac1, .slice (some ⟨g2, 0, none⟩) (L + 1) ac2⟩ ⟨n, D, q⟩ w3 w') := hide
          (out_any R base _ ⟨n, D, ⟨t, x⟩ :: q⟩ (by have := HLEN.out; rw [HN0.out] at this; dsimp only at *; omega) 0 (by simp) w3 hA3 (Nat.le_trans hbs hV3.size))
        have HOWN := hide hown
        have HA3 := hide hA3
        have HV3 := hide hV3
        have HX3 := hide hX3
        clear hown hgrow hat hm3 hA3 hV3 hX3 HR1 HA1 HV1 q0 q1 HX1
        go_wp2_with fail
        refine HD0.out.mono ?_
        rintro e w4 ⟨rfl, u4, hA4, hV4, hW4⟩
        have HNEXT : Hid (AtD w R base u s (l1 ++ [t]) (.slice av' (N + 1) ac') ⟨n, D, q⟩ w4) := hide (by
          have ok := HOK.out
          obtain ⟨e1, e2⟩ := serve_more (n := n) (x := ⟨t, x⟩) (q := q) HLE.out
          have e3 : f - (⟨t, x⟩ : Wt).u = D := HD.out
          rw [e3] at e1 e2
          have hu := ok.us ⟨t, x⟩ List.mem_cons_self
          have hD := HD.out
          have hle := HLE.out
          refine ⟨⟨u4, hA4, HV3.out.thn hV4 (fun k hk => HW.out k hk), ?_, ?_⟩, ?_, ⟨ok.n1, ok.n16, ?_, ?_, fun y hy => ok.us y (List.mem_cons_of_mem _ hy)⟩, ?_, ?_, ?_⟩
          · intro j hj
            rcases hW4 j hj with e | e
            · have := HV3.out.size; exact Or.inl (by omega)
            · exact HW.out j e
          · intro k hk hm
            rcases hW4 k hm with e | e
            · have := (HOWN.out.lt k hk).2; omega
            · exact HX3.out k hk e
          · rw [List.length_append, HN.out, cZ_snoc]
            exact owns_far HOWN.out fun k hk => hV4.block k (HOWN.out.lt k hk).2 (fun e => HX3.out k hk e)
          · show 0 ≤ D; omega
          · have := ok.fn; have := hu.1; dsimp only at *; omega
          · have := HLEN.out; rw [List.length_cons] at this; rw [List.length_append, List.length_singleton]; dsimp only; omega
          · rw [HO1.out, e1, List.append_assoc]; rfl
          · rw [HO2.out, e2])
        have HEN : Hid ((l1 ++ [t]).length = N + 1) := hide (by rw [List.length_append, HN.out]; rfl)
        have HLT : Hid (N < n0 ∧ l1.length = N) := hide (by have := HLEN.out; rw [HN0.out, HN.out, List.length_cons] at this; exact ⟨by omega, HN.out⟩)
        clear hA4 hV4 hW4 HOWN HA3 HV3 HX3 HD0 HOK HO1 HO2 HLEN HD HN b1 b2 hN1 HLE HW
        go_wp2_with fail
        go_roundw
        case rel =>
          refine ⟨l1 ++ [t], ⟨n, D, q⟩, av', ac', by rw [HEN.out], ?_⟩
          rw [HEN.out]
          exact HNEXT
        case measure =>
          have := HLT.out
          simp [lenV]; omega
      · have d1 : decide (E ≤ n) = false := decide_eq_false (by omega)
        have HF := hide (HA.out.fin (fun y h => by simp at h; subst h; show f < x; omega))
        clear hA2 hV2 hW2 hX2 cf HA hle hL hu ok hw64 hra hrb hK hE
        go_wp2_with fail
        go_quiet (fail)
        go_wp2
        go_ret
        exact ⟨_, rfl, HF.out.below (below_drewN _ _)⟩

end Go.Proofs.Ytgldhlcdnijecaa
