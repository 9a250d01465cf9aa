/-
  What the program's serve comes to.
-/
import Derived.Test.YtgldhlcdnijecaaAcq
import Derived.Test.YtgldhlcdnijecaaLate
namespace Go.Proofs.Ytgldhlcdnijecaa
open Go.RowKit

/-- What there is behind a call that answers who was served. -/
def NowA (M base : Nat) (v : Value) (s : Sm) (l : List Int) (w : World) (r : Value) (w' : World) : Prop := NowS M base v s w w' ∧ w'.ownsRow w.heap.size 3 1 r l.length (cZ l)
def lenV : Value → Nat
  | .slice _ n _ => n
  | _ => 0
/-- Where a round of it stands: who was served, and what there is. -/
structure At (w : World) (M base : Nat) (v : Value) (s : Sm) (l1 : List Int) (r : Value) (s2 : Sm) (wr : World) : Prop where
  now : NowS M base v s2 w wr
  row : wr.ownsRow w.heap.size 3 1 r l1.length (cZ l1)
  ok : Okw s2
  len : l1.length + s2.q.length = s.q.length
  out : serveO s = l1 ++ serveO s2
  left : serveS s = serveS s2
theorem NowA.below {w w1 w2 : World} {M base : Nat} {v r : Value} {s : Sm} {l : List Int} (h : NowA M base v s l w r w1) (k : Below w1.heap.size w1 w2) : NowA M base v s l w r w2 :=
  ⟨h.1.trans fun _ hv => NowS.same hv k, owns_below h.2 k⟩
theorem At.below {w wr w' : World} {M base : Nat} {v r : Value} {s s2 : Sm} {l1 : List Int} (h : At w M base v s l1 r s2 wr) (k : Below wr.heap.size wr w') : At w M base v s l1 r s2 w' :=
  ⟨h.now.trans fun _ hv => NowS.same hv k, owns_below h.row k, h.ok, h.len, h.out, h.left⟩
theorem At.fin {w wr : World} {M base : Nat} {v r : Value} {s s2 : Sm} {l1 : List Int} (h : At w M base v s l1 r s2 wr) (hn : ∀ x, s2.q.head? = some x → s2.f < x.u) : NowA M base v (serveS s) (serveO s) w r wr := by
  obtain ⟨e1, e2⟩ := serve_none (n := s2.n) hn
  have e1' : serveO s2 = [] := e1
  have e2' : serveS s2 = s2 := e2
  rw [h.out, h.left, e1', e2', List.append_nil]
  exact ⟨h.now, h.row⟩

set_option maxRecDepth 4000 in
set_option maxHeartbeats 2000000 in
set_option linter.unusedSimpArgs false in
theorem serve_any (M base : Nat) (v : Value) (s : Sm) (hO : Okw s) (hl : s.q.length ≤ 1000) (w : World) (hM : AtS w M base v s) :
    Calls Try.prog 25 #[.pointer (some ⟨M, 0, none⟩)] w fun e w' => ∃ r, e = .returned r ∧ NowA M base v (serveS s) (serveO s) w r w' := by
  obtain ⟨i3, hi, hz0, hz1, hz2⟩ := info_parts info3
  have H0 : Hid (At w M base v s [] (.slice none 0 0) s w) := ⟨NowS.same hM (Below.refl _ _), World.ownsRow_nil _ _ _ _, hO, by simp, rfl, rfl⟩
  clear hM hO
  obtain ⟨n0, hn0⟩ : ∃ n0, s.q.length = n0 := ⟨_, rfl⟩
  have HN0 := hide hn0
  rw [hn0] at hl
  clear hn0
  go_enter Try.func25, Try.ntmps25
  go_wp2
  go_loopw [3] (fun v3 wr => ∃ l1 s2 a d, v3 = .slice a l1.length d ∧ Hid (At w M base v s l1 (.slice a l1.length d) s2 wr)) (fun v3 _ => n0 - lenV v3)
  case atStart => exact ⟨[], s, _, _, rfl, H0⟩
  case round =>
    clear H0
    obtain ⟨l1, s2, a, d, rfl, HA⟩ := hrel
    obtain ⟨v2, hA2, hV2, hW2⟩ := HA.out.now
    obtain ⟨_, c1, c2, cf⟩ := hA2.cells
    have cf1 := cf 1
    have hMl := hA2.lt
    obtain ⟨av, ac, rfl⟩ := owns_slice hA2.row
    obtain ⟨n, f, q⟩ := s2
    dsimp only at c1 c2
    cases q with
    | nil =>
      have HF := hide (HA.out.fin (fun x h => by simp at h))
      dsimp only [List.length_nil] at c2
      clear hA2 hV2 hW2 cf HA
      go_wp2_with fail
      go_quiet (fail)
      go_wp2
      go_ret
      exact ⟨_, rfl, HF.out.below (below_drewN _ _)⟩
    | cons x q =>
      obtain ⟨g, c, hv, _, hgl, hcell, _⟩ := row_openW hA2.row (by simp)
      dsimp only at hv
      simp only [Value.slice.injEq, true_and] at hv
      obtain ⟨rfl, rfl⟩ := hv
      obtain ⟨p0, p1⟩ := hcell 0 (by simp)
      rw [Nat.zero_mul] at p0
      rw [Nat.zero_mul, Nat.zero_add] at p1
      have e0 : wt (x :: q) 0 = x := rfl
      dsimp only at p0 p1
      rw [e0] at p0 p1
      obtain ⟨t, u⟩ := x
      dsimp only [List.length_cons] at c2 p0 p1
      obtain ⟨L, hL⟩ : ∃ L, q.length = L := ⟨_, rfl⟩
      have HL := hide hL
      rw [hL] at c2
      have i1 : (0 : Int) < ((L + 1 : Nat) : Int) := by omega
      by_cases hle : u ≤ f
      · have d1 : decide (u ≤ f) = true := decide_eq_true hle
        have hu := HA.out.ok.us ⟨t, u⟩ List.mem_cons_self
        have hw64 : IntKind.i64.wrap (f - u) = f - u := wrapB (by have := HA.out.ok.f0; have := HA.out.ok.fn; have := HA.out.ok.n16; have := hu.1; dsimp only at *; omega)
        obtain ⟨D, hD⟩ : ∃ D, f - u = D := ⟨_, rfl⟩
        rw [hD] at hw64
        have HD := hide hD
        have hw65 : IntKind.i64.wrap (f - u) = D := by rw [HD.out]; exact hw64
        have HM := hide hA2
        have HV := hide hV2
        have HW := hide hW2
        have hgM : g ≠ M := fun e => hA2.far (by rw [e]; rfl)
        clear hA2 hV2 hW2 cf hcell hL e0 hu hD hw64
        go_wp2_with fail
        go_quiet (fail)
        go_wp2_with fail
        refine wp_region_noPanic ?_
        refine wp_region_last_drew (A := fun i => decide (i < 12)) (S := fun w' => w'.cell? ⟨M, 1, none⟩ = some (.int .i64 f) ∧ w'.cell? ⟨M, 2, none⟩ = some (.slice (some ⟨g, 0, none⟩) (L + 1) ac) ∧ w'.cell? ⟨g, 1, none⟩ = some (.int .i64 u)) (by kernel_rfl) ?_ (fun hHeld => ?_)
        · exact ⟨c1, c2, p1⟩
        refine wpAnyL_take (i := 0) (v := ?_) rfl (by kernel_rfl) (by kernel_rfl) (by kernel_rfl) (by kernel_rfl) (fun _ _ _ h => h) (Or.inl ⟨by rfl, ?_⟩) (by first | trivial | assumption) ?_
        rotate_left 1
        · (intro w hSw; (try dsimp only at hSw); go_simp; all_goals with_reducible rfl)
        try simp only [Act.put, List.setIfInBounds_toArray, List.set_cons_zero, List.set_cons_succ]
        refine wpAnyL_take (i := 1) (v := ?_) rfl (by kernel_rfl) (by kernel_rfl) (by kernel_rfl) (by kernel_rfl) (fun _ _ _ h => h) (Or.inl ⟨by rfl, ?_⟩) (by first | trivial | assumption) ?_
        rotate_left 1
        · (intro w hSw; (try dsimp only at hSw); go_simp; all_goals with_reducible rfl)
        try simp only [Act.put, List.setIfInBounds_toArray, List.set_cons_zero, List.set_cons_succ]
        refine wpAnyL_take (i := 2) (v := ?_) rfl (by kernel_rfl) (by kernel_rfl) (by kernel_rfl) (by kernel_rfl) (fun _ _ _ h => h) (Or.inl ⟨by rfl, ?_⟩) (by first | trivial | assumption) ?_
        rotate_left 1
        · (intro w hSw; (try dsimp only at hSw); go_simp; all_goals with_reducible rfl)
        try simp only [Act.put, List.setIfInBounds_toArray, List.set_cons_zero, List.set_cons_succ]
        refine wpAnyL_take (i := 3) (v := ?_) rfl (by kernel_rfl) (by kernel_rfl) (by kernel_rfl) (by kernel_rfl) (fun _ _ _ h => h) (Or.inl ⟨by rfl, ?_⟩) (by first | trivial | assumption) ?_
        rotate_left 1
        · (intro w hSw; (try dsimp only at hSw); go_simp; all_goals with_reducible rfl)
        try simp only [Act.put, List.setIfInBounds_toArray, List.set_cons_zero, List.set_cons_succ]
        refine wpAnyL_take (i := 4) (v := ?_) rfl (by kernel_rfl) (by kernel_rfl) (by kernel_rfl) (by kernel_rfl) (fun _ _ _ h => h) (Or.inl ⟨by rfl, ?_⟩) (by first | trivial | assumption) ?_
        rotate_left 1
        · (intro w hSw; (try dsimp only at hSw); go_simp; all_goals with_reducible rfl)
        try simp only [Act.put, List.setIfInBounds_toArray, List.set_cons_zero, List.set_cons_succ]
        refine wpAnyL_take (i := 5) (v := ?_) rfl (by kernel_rfl) (by kernel_rfl) (by kernel_rfl) (by kernel_rfl) (fun _ _ _ h => h) (Or.inl ⟨by rfl, ?_⟩) (by first | trivial | assumption) ?_
        rotate_left 1
        · (intro w hSw; (try dsimp only at hSw); go_simp; all_goals with_reducible rfl)
        try simp only [Act.put, List.setIfInBounds_toArray, List.set_cons_zero, List.set_cons_succ]
        refine wpAnyL_take (i := 6) (v := ?_) rfl (by kernel_rfl) (by kernel_rfl) (by kernel_rfl) (by kernel_rfl) (fun _ _ _ h => h) (Or.inl ⟨by rfl, ?_⟩) (by first | trivial | assumption) ?_
        rotate_left 1
        · (intro w hSw; (try dsimp only at hSw); go_simp; all_goals with_reducible rfl)
        try simp only [Act.put, List.setIfInBounds_toArray, List.set_cons_zero, List.set_cons_succ]
        refine wpAnyL_take (i := 7) (v := ?_) rfl (by kernel_rfl) (by kernel_rfl) (by kernel_rfl) (by kernel_rfl) (fun _ _ _ h => h) (Or.inl ⟨by rfl, ?_⟩) (by first | trivial | assumption) ?_
        rotate_left 1
        · (intro w hSw; (try dsimp only at hSw); go_simp; all_goals with_reducible rfl)
        try simp only [Act.put, List.setIfInBounds_toArray, List.set_cons_zero, List.set_cons_succ]
        refine wpAnyL_take (i := 8) (v := ?_) rfl (by kernel_rfl) (by kernel_rfl) (by kernel_rfl) (by kernel_rfl) (fun _ _ _ h => h) (Or.inl ⟨by rfl, ?_⟩) (by first | trivial | assumption) ?_
        rotate_left 1
        · (intro w hSw; (try dsimp only at hSw); go_simp; all_goals with_reducible rfl)
        try simp only [Act.put, List.setIfInBounds_toArray, List.set_cons_zero, List.set_cons_succ]
        refine wpAnyL_take (i := 9) (v := ?_) rfl (by kernel_rfl) (by kernel_rfl) (by kernel_rfl) (by kernel_rfl) (fun _ _ _ h => h) (Or.inl ⟨by rfl, ?_⟩) (by first | trivial | assumption) ?_
        rotate_left 1
        · (intro w hSw; (try dsimp only at hSw); go_simp; all_goals with_reducible rfl)
        try simp only [Act.put, List.setIfInBounds_toArray, List.set_cons_zero, List.set_cons_succ]
        refine wpAnyL_take (i := 10) (v := ?_) rfl (by kernel_rfl) (by kernel_rfl) (by kernel_rfl) (by kernel_rfl) (fun _ _ _ h => h) (Or.inl ⟨by rfl, ?_⟩) (by first | trivial | assumption) ?_
        rotate_left 1
        · (intro w hSw; (try dsimp only at hSw); go_simp; all_goals with_reducible rfl)
        try simp only [Act.put, List.setIfInBounds_toArray, List.set_cons_zero, List.set_cons_succ]
        refine wpAnyL_take (i := 11) (v := ?_) rfl (by kernel_rfl) (by kernel_rfl) (by kernel_rfl) (by kernel_rfl) (fun _ _ _ h => h) (Or.inl ⟨by rfl, ?_⟩) (by first | trivial | assumption) ?_
        rotate_left 1
        · (intro w hSw; (try dsimp only at hSw); go_simp; all_goals with_reducible rfl)
        try simp only [Act.put, List.setIfInBounds_toArray, List.set_cons_zero, List.set_cons_succ]
        refine wpAnyL_takeP (i := 12) (v := ?_) rfl (by kernel_rfl) (by kernel_rfl) (by kernel_rfl) (by kernel_rfl) (fun _ _ _ h => h) (Or.inl ⟨by rfl, ?_⟩) ?_
        rotate_left 1
        · (intro w hSw; (try dsimp only at hSw); go_simp; all_goals with_reducible rfl)
        try simp only [Act.put, List.setIfInBounds_toArray, List.set_cons_zero, List.set_cons_succ]
        refine wpAnyL_takeP (i := 13) (v := ?_) rfl (by kernel_rfl) (by kernel_rfl) (by kernel_rfl) (by kernel_rfl) (fun _ _ _ h => h) (Or.inl ⟨by rfl, ?_⟩) ?_
        rotate_left 1
        · (intro w hSw; (try dsimp only at hSw); go_simp; all_goals with_reducible rfl)
        try simp only [Act.put, List.setIfInBounds_toArray, List.set_cons_zero, List.set_cons_succ]
        refine wpAnyL_ready (rs := [14]) (by kernel_rfl) (by simp) ?_
        refine AllReadyL.last rfl (by kernel_rfl) (fun K hK => ?_)
        go_simp
        refine hK.out _ _ ?_
        clear hK K
        try simp only [Act.put, List.setIfInBounds_toArray, List.set_cons_zero, List.set_cons_succ]
        refine wpAnyL_done (by kernel_rfl) ?_ _
        refine NoPanic.normal ?_
        clear hHeld
        obtain ⟨W1, hW1⟩ : ∃ W1, W1 = (wr.drewN (nq + 1)).setCell ⟨M, 1, none⟩ (.int .i64 D) := ⟨_, rfl⟩
        rw [← hW1]
        have hA0 := HM.out.below (below_drewN wr (nq + 1))
        have hHeld := HA.out.row
        have hR1 : W1.ownsRow w.heap.size 3 1 (.slice a l1.length d) l1.length (cZ l1) := by
          rw [hW1]
          have := owns_below HA.out.row (below_drewN wr (nq + 1))
          exact row_set this (row_box this hA0.box (by decide))
        have hA1 : AtS W1 M base (.slice (some ⟨g, 0, none⟩) (L + 1) ac) ⟨n, D, ⟨t, u⟩ :: q⟩ := by
          rw [hW1]
          have := hA0.setF D
          rw [List.length_cons, HL.out] at this
          exact this
        have hV1 : Mov (Mine M v) w W1 := by
          rw [hW1]
          refine HV.out.thn (T := fun k => k = M) ((Mov.of_below (S := fun k => k = M) (below_drewN wr (nq + 1))).set (p := ⟨M, 1, none⟩) rfl _) ?_
          rintro k rfl
          exact HW.out _ (Or.inl rfl)
        obtain ⟨N, hN⟩ : ∃ N, l1.length = N := ⟨_, rfl⟩
        have HN := hide hN
        have hN1 : N ≤ 1000 := by have := HA.out.len; rw [HN0.out, hN] at this; omega
        rw [hN] at hR1 ⊢
        have HOK := hide HA.out.ok
        have HLEN := hide HA.out.len
        have HO1 := hide HA.out.out
        have HO2 := hide HA.out.left
        have HR1 := hide hR1
        have HA1 := hide hA1
        have HV1 := hide hV1
        have HW1 : Hid (∀ k, Mine M (.slice (some ⟨g, 0, none⟩) (L + 1) ac) k → w.heap.size ≤ k ∨ Mine M v k) := HW.out
        have q1 : W1.cell? ⟨M, 2, none⟩ = some (.slice (some ⟨g, 0, none⟩) (L + 1) ac) := hA1.cells.2.2.1
        have q0 : W1.cell? ⟨g, 0, none⟩ = some (.int .i64 t) := by
          rw [hW1, World.cell?_setCell_other _ _ _ _ (by intro e; exact hgM (by injection e with e1; exact e1.symm))]
          exact p0
        have hzw := hV1.size
        have b1 : N + 1 ≤ maxLen := by unfold maxLen; omega
        have b2 : (N + 1) * 8 ≤ 140737488355328 := by omega
        clear hW1 hA0 hHeld hR1 hA1 hV1 hN HA c1 c2 p0 p1 cf1 HM HV HW hgl hMl d1
        go_wp2_with (at_builtin; refine wpList_append_own_at _ rfl _ _ 31 rfl w.heap.size 3 i3 (.int .i64 0) 1 8 Try.underlying31 hi hz0 hz1 hz2 rfl (by decide) _ _ _ rfl (HR1.out.alloc _) ⟨W1.heap.size, 0, none⟩ 1 1 [.int .i64 t] rfl rfl (newsI (by simp [go_sem])) (onesI _) b1 b2 (by simp; omega) ?_)
        intro v' w3 hown hgrow _ hat
        obtain ⟨av', ac', rfl⟩ := owns_slice hown
        have hm3 := grown_mov hgrow
        have hA3 : AtS w3 M base (.slice (some ⟨g, 0, none⟩) (L + 1) ac) ⟨n, D, ⟨t, u⟩ :: q⟩ := HA1.out.keep fun k hk => hm3.block k (HA1.out.mine_lt hk) (fun e => by
          rcases hk with e2 | e2
          · rw [e2] at e; exact row_box HR1.out HA1.out.box (by decide) e
          · exact rows_apart HA1.out.row HR1.out k e2 e)
        have hV3 : Mov (Mine M v) w w3 := HV1.out.thn hm3 (fun k hk => Or.inl (HR1.out.lt k hk).1)
        have hrow3 : w3.ownsRow base 56 2 (.slice (some ⟨g, 0, none⟩) (L + 1) ac) (L + 1) (cW (⟨t, u⟩ :: q)) := by
          have := hA3.row
          rw [List.length_cons, HL.out] at this
          exact this
        have HD0 : Hid (Calls Try.prog 24 #[.slice (some ⟨g, 0, none⟩) (L + 1) ac, .int .i64 0, .int .i64 1] w3 fun e w' => e = .returned (.slice (some ⟨g, 0, none⟩) L ac) ∧ w'.ownsRow base 56 2 (.slice (some ⟨g, 0, none⟩) L ac) L (cW q) ∧ Mov (fun k => k = g) w3 w') := hide (by
          have := delete_any base g ac (L + 1) 0 1 (⟨t, u⟩ :: q) (by rw [List.length_cons, HL.out]) (by have := HLEN.out; rw [HN0.out, List.length_cons, HL.out] at this; omega) (by omega) rfl w3 hrow3
          have e : 0 + (L + 1 - 1) = L := by omega
          rw [e] at this
          exact this)
        have q3 : w3.cell? ⟨M, 2, none⟩ = some (.slice (some ⟨g, 0, none⟩) (L + 1) ac) := hA3.cells.2.2.1
        have HOWN := hide hown
        have HA3 := hide hA3
        have HV3 := hide hV3
        have hMl3 := hA3.lt
        clear hown hgrow hat hm3 hA3 hV3 hrow3 HR1 HA1 HV1 q0 q1
        go_wp2_with fail
        refine HD0.out.mono ?_
        rintro e w4 ⟨rfl, ho4, hm4⟩
        have hbox4 : w4.heap[M]? = some (.cells #[.int .i64 n, .int .i64 D, .slice (some ⟨g, 0, none⟩) (L + 1) ac] 51 (0, 0)) := (hm4.block M hMl3 (fun e => hgM e.symm)).trans HA3.out.box
        have hfr : w4.frozen? ⟨M, 2, none⟩ = false := Lib.frozen_of_heap hbox4 2
        have hce : w4.cell? ⟨M, 2, none⟩ = some (.slice (some ⟨g, 0, none⟩) (L + 1) ac) := Lib.cell_of_heap hbox4 2
        have HN4 : Hid (NowS M base v ⟨n, D, q⟩ w (w4.setCell ⟨M, 2, none⟩ (.slice (some ⟨g, 0, none⟩) L ac))) := hide (NowS.next HV3.out HW1.out (NowS.setQ (x := .slice (some ⟨g, 0, none⟩) L ac) (l := q) HA3.out ⟨hm4.os, hm4.tape, hm4.output, hm4.size, fun k hk hS => hm4.block k hk (fun e => hS (by rw [e]; rfl))⟩ (by rw [HL.out]; exact ho4) (fun k hk => Or.inr hk)))
        have HR4 : Hid ((w4.setCell ⟨M, 2, none⟩ (.slice (some ⟨g, 0, none⟩) L ac)).ownsRow w.heap.size 3 1 (.slice av' (N + 1) ac') (N + 1) (cZ (l1 ++ [t]))) := hide (by
          have h1 : w4.ownsRow w.heap.size 3 1 (.slice av' (N + 1) ac') (N + 1) (cZ (l1 ++ [t])) := by
            rw [cZ_snoc]
            exact owns_far HOWN.out fun k hk => hm4.block k (HOWN.out.lt k hk).2 (fun e => rows_apart HA3.out.row HOWN.out k (by rw [e]; rfl) hk)
          exact row_set h1 (row_box h1 hbox4 (by decide)))
        have HNEXT : Hid (At w M base v s (l1 ++ [t]) (.slice av' (N + 1) ac') ⟨n, D, q⟩ (w4.setCell ⟨M, 2, none⟩ (.slice (some ⟨g, 0, none⟩) L ac))) := hide (by
          have ok := HOK.out
          obtain ⟨e1, e2⟩ := serve_more (n := n) (x := ⟨t, u⟩) (q := q) hle
          have e3 : f - (⟨t, u⟩ : Wt).u = D := HD.out
          rw [e3] at e1 e2
          have hu := ok.us ⟨t, u⟩ List.mem_cons_self
          have hD := HD.out
          refine ⟨HN4.out, by rw [List.length_append, HN.out]; exact HR4.out, ⟨ok.n1, ok.n16, ?_, ?_, fun y hy => ok.us y (List.mem_cons_of_mem _ hy)⟩, ?_, ?_, ?_⟩
          · show 0 ≤ D; omega
          · have := ok.fn; have := hu.1; dsimp only at *; omega
          · have := HLEN.out; rw [List.length_cons] at this; rw [List.length_append, List.length_singleton]; dsimp only; omega
          · rw [HO1.out, e1, List.append_assoc]; rfl
          · rw [HO2.out, e2])
        have HEN : Hid ((l1 ++ [t]).length = N + 1) := hide (by rw [List.length_append, HN.out]; rfl)
        have HLT : Hid (N < n0 ∧ l1.length = N) := hide (by have := HLEN.out; rw [HN0.out, HN.out, List.length_cons] at this; exact ⟨by omega, HN.out⟩)
        clear ho4 hm4 hbox4 HN4 HR4 HOWN HA3 HV3 HD0 HOK HO1 HO2 HLEN HD q3 HN hw65 b1 b2 hN1 hle
        go_wp2_with fail
        go_roundw
        case rel =>
          refine ⟨l1 ++ [t], ⟨n, D, q⟩, av', ac', by rw [HEN.out], ?_⟩
          rw [HEN.out]
          exact HNEXT
        case measure =>
          have := HLT.out
          simp [lenV]; omega
      · have d1 : decide (u ≤ f) = false := decide_eq_false hle
        have HF := hide (HA.out.fin (fun x h => by simp at h; subst h; show f < u; omega))
        clear hA2 hV2 hW2 cf HA hcell hle hL e0
        go_wp2_with fail
        go_quiet (fail)
        go_wp2
        go_ret
        exact ⟨_, rfl, HF.out.below (below_drewN _ _)⟩

end Go.Proofs.Ytgldhlcdnijecaa
