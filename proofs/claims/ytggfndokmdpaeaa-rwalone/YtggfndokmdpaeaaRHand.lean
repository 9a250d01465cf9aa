/-
  What the document's hand comes to.
-/
import Derived.Test.YtggfndokmdpaeaaOut
namespace Go.Proofs.Ytggfndokmdpaeaa
open Go.RowKit

theorem mv_step {l : List Wn} (hn : (ts l).Nodup) {t : Int} (h : inZ (ts l) t = true) : (ts (mvO l t)).Nodup ∧ (∀ x, inZ (ts (mvO l t)) x = inZ (ts l) x) ∧ (mvO l t).length = l.length := by
  obtain ⟨h1, h2, _⟩ := idx_here h
  have e1 : (mvO l t).length = l.length := by unfold mvO; rw [List.length_append]; exact less_len h1
  have et : ts (mvO l t) = rmZ (ts l) t ++ [t] := by unfold mvO; rw [ts_app, less_ts hn h, h2]; rfl
  refine ⟨by rw [et]; exact nodup_snoc (rm_nodup hn t) (in_rm _ _), fun x => ?_, e1⟩
  rw [et, in_snoc]
  by_cases q : x = t
  · subst q; rw [h]; simp
  · have : inZ (rmZ (ts l) t) x = inZ (ts l) x := by
      cases hx : inZ (ts l) x
      · exact inZ_false.2 fun e => inZ_false.1 hx (mem_rm.1 e).1
      · exact inZ_true.2 (mem_rm.2 ⟨inZ_true.1 hx, q⟩)
    rw [this]
    have : decide (t = x) = false := decide_eq_false (fun e => q e.symm)
    rw [this, Bool.or_false]
theorem mv_fold : ∀ (q : List Int) {l : List Wn}, (ts l).Nodup → (∀ t ∈ q, inZ (ts l) t = true) → (ts (q.foldl mvO l)).Nodup ∧ (∀ x, inZ (ts (q.foldl mvO l)) x = inZ (ts l) x) ∧ (q.foldl mvO l).length = l.length
  | [], _, hn, _ => ⟨hn, fun _ => rfl, rfl⟩
  | t :: q, l, hn, h => by
    obtain ⟨a1, a2, a3⟩ := mv_step hn (h t List.mem_cons_self)
    obtain ⟨b1, b2, b3⟩ := mv_fold q a1 (fun x hx => by rw [a2]; exact h x (List.mem_cons_of_mem _ hx))
    exact ⟨b1, fun x => (b2 x).trans (a2 x), b3.trans a3⟩
theorem fold_take {l : List Wn} {q : List Int} {k : Nat} (h : k < q.length) : (q.take (k + 1)).foldl mvO l = mvO ((q.take k).foldl mvO l) (gz q k) := by
  have e : q.take (k + 1) = q.take k ++ [gz q k] := by
    rw [List.take_add_one]
    simp [gz, List.getD_eq_getElem?_getD, h]
  rw [e, List.foldl_append]
  rfl
theorem hand_in (l : List Wn) : ∀ t ∈ handLo l, inZ (ts l) t = true := by
  intro t ht
  unfold handLo at ht
  split at ht
  · cases ht
  split at ht
  · exact inZ_true.2 ((kinds_sub _ _ _).subset ht)
  split at ht
  · exact inZ_true.2 ((kinds_sub _ _ _).subset (List.mem_of_mem_take ht))
  · cases ht
theorem kinds_le (l : List Wn) (b c : Bool) : (kinds l b c).length ≤ l.length := by
  have := (kinds_sub l b c).length_le
  rwa [ts_len] at this

/-- Where the loop is: some of those that get it have it. -/
def Lp (w : World) (R base : Nat) (u : Value) (L : List Wn) (a : Option Addr) (q : List Int) (wr : World) : Prop :=
  ∃ u', AtR wr R base u' L ∧ Mov (MineR R u) w wr ∧ (∀ k, u'.ownBlock = some k → w.heap.size ≤ k ∨ u.ownBlock = some k) ∧ RowF (fun k => ¬ MineR R u' k) wr a q
theorem Lp.now {w wr w' : World} {R base : Nat} {u u' : Value} {L2 : List Wn} {a : Option Addr} {q : List Int} (h2 : Mov (MineR R u) w wr) (h3 : ∀ k, u'.ownBlock = some k → w.heap.size ≤ k ∨ u.ownBlock = some k) (h4 : RowF (fun k => ¬ MineR R u' k) wr a q) (k : NowR R base u' L2 wr w') : Lp w R base u L2 a q w' := by
  have kk : NowR R base u L2 w w' := NowR.next h2 h3 k
  obtain ⟨u2, k1, k2, k3⟩ := k
  obtain ⟨u3, _, j2, _⟩ := kk
  have hz := h2.size
  refine ⟨u2, k1, j2, fun j hj => ?_, fun hn => ?_⟩
  · rcases k3 j hj with q | q
    · exact Or.inl (by omega)
    · exact h3 j q
  · obtain ⟨g, off, e1, e2, e3, e4⟩ := h4 hn
    refine ⟨g, off, e1, fun m => ?_, Nat.lt_of_lt_of_le e3 k2.size, fun j hj => (World.cell?_of_block (k2.block g e3 e2)).trans (e4 j hj)⟩
    rcases m with m | m
    · exact e2 (Or.inl m)
    · rcases k3 g m with p | p
      · omega
      · exact e2 (Or.inr p)
theorem Lp.done {w wr : World} {R base : Nat} {u : Value} {L : List Wn} {a : Option Addr} {q : List Int} (h : Lp w R base u L a q wr) : NowR R base u L w wr ∧ RowZ wr a q := by
  obtain ⟨u', h1, h2, h3, h4⟩ := h
  exact ⟨⟨u', h1, h2, h3⟩, h4.row⟩
theorem Lp.start {w wr : World} {R base : Nat} {u : Value} {l : List Wn} {a : Option Addr} {q : List Int} (h : AtR w R base u l) (hb : Below w.heap.size w wr) (hr : q ≠ [] → ∃ g off, a = some ⟨g, off, none⟩ ∧ w.heap.size ≤ g ∧ g < wr.heap.size ∧ ∀ k, k < q.length → wr.cell? ⟨g, off + k, none⟩ = some (.int .i64 (gz q k))) : Lp w R base u l a q wr :=
  ⟨u, h.below hb, Mov.of_below hb, fun _ hk => Or.inr hk, fun hn => by
    obtain ⟨g, off, e1, e2, e3, e4⟩ := hr hn
    exact ⟨g, off, e1, fun m => by have := h.mine_lt m; omega, e3, e4⟩⟩
theorem own_start {w w1 w2 : World} {l : List Int} {a : Option Addr} {c : Nat} (hb : Below w.heap.size w w1) (ho : w2.ownsRow w1.heap.size 3 1 (.slice a l.length c) l.length (cZ l)) : l ≠ [] → ∃ g off, a = some ⟨g, off, none⟩ ∧ w.heap.size ≤ g ∧ g < w2.heap.size ∧ ∀ k, k < l.length → w2.cell? ⟨g, off + k, none⟩ = some (.int .i64 (gz l k)) := fun hn => by
  obtain ⟨g, c', hv, h1, h2, h3, _⟩ := row_open ho (List.length_pos_iff.2 hn)
  injection hv with e
  exact ⟨g, 0, e, Nat.le_trans hb.size h1, h2, fun k hk => by rw [Nat.zero_add]; exact (h3 k hk).1⟩
theorem next_open {w w1 : World} {r : Value} {y : Int} {q0 : List Int} (h : w1.ownsRow w.heap.size 3 1 r (y :: q0).length (cZ (y :: q0))) : ∃ g c, r = .slice (some ⟨g, 0, none⟩) (y :: q0).length c ∧ w.heap.size ≤ g ∧ g < w1.heap.size ∧ w1.cell? ⟨g, 0, none⟩ = some (.int .i64 y) ∧ (y :: q0).length ≤ c ∧ 1 ≤ c := by
  obtain ⟨g, c, e, h1, h2, h3, h4⟩ := row_open h (by simp)
  exact ⟨g, c, e, h1, h2, (h3 0 (by simp)).1, h4, by simp at h4; omega⟩
theorem app_rowR {w w3 : World} {R base : Nat} {u u' : Value} {l : List Wn} {o : Wn} (h : AtR w R base u l) (m : Mov (fun j => u.ownBlock = some j) w w3) (ho : w3.ownsRow base 61 3 u' (l.length + 1) (cO (l ++ [o]))) (hat : ∀ k, u'.ownBlock = some k → w.heap.size ≤ k ∨ u.ownBlock = some k) : NowR R base u (l ++ [o]) w (w3.setCell ⟨R, 0, none⟩ u') := by
  have hb : w3.heap[R]? = some (.cells #[u] 28 (0, 0)) := (m.block R h.lt h.far).trans h.box
  have ho' : w3.ownsRow base 61 3 u' (l ++ [o]).length (cO (l ++ [o])) := by rw [List.length_append]; exact ho
  refine ⟨u', ⟨Lib.heap_setCell_same hb u', owns_far ho' fun k hk => Below.heap_setCell _ _ _ _ (fun e => rowO_box ho' hb (by decide) (by rw [hk]; exact congrArg some e))⟩, ((Mov.refl (MineR R u) w).thn m (fun i hi => Or.inr (Or.inr hi))).set (p := ⟨R, 0, none⟩) (Or.inl rfl) _, hat⟩


set_option maxRecDepth 20000 in
set_option maxHeartbeats 8000000 in
set_option linter.unusedSimpArgs false in
theorem hand_read (R base : Nat) (u : Value) (l : List Wn) (hl : l.length ≤ 1000) (hnd : (ts l).Nodup) (w0 : World) (hR : AtR w0 R base u l) (hbs : base ≤ w0.heap.size) (hx : wrO l = 0) (hy : kinds l true false = []) :
    Calls Try.prog 34 #[.pointer (some ⟨R, 0, none⟩)] w0 fun e w' => ∃ a c, e = .returned (.slice a (kinds l false false).length c) ∧ NowR R base u ((kinds l false false).foldl mvO l) w0 w' ∧ RowZ w' a (kinds l false false) := by
  have HW := hide (fun W (k : Below w0.heap.size w0 W) => rwriter_any R base u l hl W (hR.below k))
  have HT := hide (fun W (k : Below w0.heap.size w0 W) => tasks_any R base u l hl true false W (hR.below k))
  have HT2 := hide (fun W (k : Below w0.heap.size w0 W) => tasks_any R base u l hl false false W (hR.below k))
  have HR := hide hR
  have HND := hide hnd
  have HIN : Hid (∀ t ∈ kinds l false false, inZ (ts l) t = true) := hide fun t ht => inZ_true.2 ((kinds_sub _ _ _).subset ht)
  have hqs := kinds_le l false false
  rw [hx] at HW
  rw [hy] at HT
  clear hR hnd hx hy
  generalize kinds l false false = q at *
  obtain ⟨qn, hqn⟩ : ∃ qn, q.length = qn := ⟨_, rfl⟩
  have HQN := hide hqn
  rw [hqn] at hqs ⊢
  clear hqn
  have hbn := below1 w0 (.cells #[] 3)
  go_enter Try.func34, Try.ntmps34
  go_wp2_with fail
  refine (HW.out _ hbn).mono ?_
  rintro e w1 ⟨rfl, hb1⟩
  have HB1 := hide (below_next hbn hb1)
  clear hbn hb1 HW
  go_wp2_with fail
  refine (HT.out _ HB1.out).mono ?_
  rintro e w2 ⟨r, rfl, ho2, hb2⟩
  obtain ⟨ra, rc, rfl⟩ := owns_slice ho2
  have HB2 := hide (below_next HB1.out hb2)
  clear ho2 hb2 HT HB1
  go_wp2_with fail
  refine (HT2.out _ HB2.out).mono ?_
  rintro e w3 ⟨r, rfl, ho3, hb3⟩
  obtain ⟨qa, qc, rfl⟩ := owns_slice ho3
  have HL0 : Hid (Lp w0 R base u ((q.take 0).foldl mvO l) qa q w3) := hide (Lp.start HR.out (below_next HB2.out hb3) (own_start HB2.out ho3))
  clear ho3 hb3 HT2 HB2 HR
  rw [HQN.out]
  go_wp2_with fail

  go_loopw [5] (fun i wr => ∃ k : Nat, i = .int .i64 k ∧ k ≤ qn ∧ Hid (Lp w0 R base u ((q.take k).foldl mvO l) qa q wr)) (fun i _ => qn - (intOf i).toNat)
  case atStart => exact ⟨0, rfl, Nat.zero_le _, HL0⟩
  case round =>
    obtain ⟨k, rfl, hk, HL⟩ := hrel
    by_cases hlt : k < qn
    · obtain ⟨u1, hA1, hV1, hW1, hF1⟩ := HL.out
      have hqk : k < q.length := by rw [HQN.out]; exact hlt
      have hne : q ≠ [] := fun e => by rw [e] at hqk; simp at hqk
      obtain ⟨g, off, hqa, _, hgl, hcell⟩ := hF1 hne
      have p0 := hcell k hqk
      subst hqa
      obtain ⟨m1, m2, m3⟩ := mv_fold (q.take k) HND.out (fun t ht => HIN.out t (List.mem_of_mem_take ht))
      have hi : inZ (ts ((q.take k).foldl mvO l)) (gz q k) = true := by rw [m2]; exact HIN.out _ (gz_mem hqk)
      have HFT := hide (fold_take (l := l) hqk)
      obtain ⟨LL, hLL⟩ : ∃ LL, (q.take k).foldl mvO l = LL := ⟨_, rfl⟩
      rw [hLL] at hA1 m3 hi HFT
      obtain ⟨x1, x2, x3⟩ := idx_here hi
      have hlen : LL.length ≤ 1000 := by omega
      have A := at_any R base u1 LL hlen (gz q k) wr hA1
      rw [x3] at A
      have HA := hide A
      have hbs1 : base ≤ wr.heap.size := Nat.le_trans hbs hV1.size
      have HO := hide (out_any R base u1 LL hlen (idxN LL (gz q k)) x1 wr hA1 hbs1)
      have HA1 := hide hA1
      have HV1 := hide hV1
      have HW1 := hide hW1
      have HF1 := hide hF1
      have e1 : (k : Int) < (qn : Int) := by omega
      have e0 : (0 : Int) ≤ (k : Int) := by omega
      have hll := less_len x1
      have HLL := hide hLL
      obtain ⟨ii, hii⟩ : ∃ ii, idxN LL (gz q k) = ii := ⟨_, rfl⟩
      rw [hii] at HA HO x1 x2 hll
      obtain ⟨X, hX⟩ : ∃ X, (wn LL ii).t = X := ⟨_, rfl⟩
      obtain ⟨Y, hY⟩ : ∃ Y, (wn LL ii).w = Y := ⟨_, rfl⟩
      obtain ⟨Z, hZ⟩ : ∃ Z, (wn LL ii).h = Z := ⟨_, rfl⟩
      have HMV : Hid (mvO LL (gz q k) = lessO LL ii ++ [⟨X, Y, true⟩]) := hide (by unfold mvO; rw [hii, hX, hY])
      rw [hX] at x2
      rw [hX, hY, hZ] at HO
      rw [← x2] at p0 HA HMV
      have HX2 : Hid (X = gz q k) := x2
      clear A hA1 hV1 hW1 hF1 hcell hi m1 m2 m3 hLL hii hX hY hZ x2 x3 hne HL
      go_wp2_with fail
      refine HA.out.mono ?_
      rintro e w2 ⟨rfl, hw2⟩
      subst hw2
      go_wp2_with fail
      refine HO.out.mono ?_
      rintro e w3 ⟨rfl, hN⟩
      obtain ⟨u2, hA2, hV2, hW2⟩ := hN
      obtain ⟨wB, hwB⟩ : ∃ wB, wB = w3.alloc (.cells #[.int .i64 X, .bool Y, .bool true] 61) := ⟨_, rfl⟩
      obtain ⟨ob, hob⟩ : ∃ ob, ob = w3.heap.size := ⟨_, rfl⟩
      have hbB : Below w3.heap.size w3 wB := by rw [hwB]; exact below1 w3 _
      have hzB : wB.heap.size = ob + 1 := by rw [hwB, hob]; simp
      have hbo : wB.heap[ob]? = some (.cells #[.int .i64 X, .bool Y, .bool true] 61 (0, 0)) := by
        rw [hwB, hob]
        exact heap_alloc_new _ _
      have hAB := hA2.below hbB
      obtain ⟨av, ac, hv⟩ := owns_slice hA2.row
      subst hv
      have hon : ∀ j, (Value.slice av (lessO LL ii).length ac).ownBlock = some j → j < ob := fun j hj => by rw [hob]; exact (hA2.row.lt j hj).2
      have HS : Hid (∀ W', Mov (fun j => (Value.slice av (lessO LL ii).length ac).ownBlock = some j) wB W' → Mov (fun j => (Value.slice av (lessO LL ii).length ac).ownBlock = some j) wB W' ∧ W'.cell? ⟨R, 0, none⟩ = some (.slice av (lessO LL ii).length ac) ∧ W'.cell? ⟨ob, 0, none⟩ = some (.int .i64 X) ∧ W'.cell? ⟨ob, 1, none⟩ = some (.bool Y) ∧ W'.cell? ⟨ob, 2, none⟩ = some (.bool true)) := hide fun W' m => by
        have hb2 := (m.block ob (by omega) (fun e => by have := hon ob e; omega)).trans hbo
        exact ⟨m, (World.cell?_of_block (m.block R hAB.lt hAB.far)).trans hAB.cells.1, Lib.cell_of_heap hb2 0, Lib.cell_of_heap hb2 1, Lib.cell_of_heap hb2 2⟩
      have HFZ : Hid (∀ W', Mov (fun j => (Value.slice av (lessO LL ii).length ac).ownBlock = some j) wB W' → W'.frozen? ⟨R, 0, none⟩ = false) := hide fun W' m =>
        Lib.frozen_of_heap ((m.block R hAB.lt hAB.far).trans hAB.box) 0
      have HG : Hid (∀ W', ((wB.alloc (.cells #[.int .i64 X, .bool Y, .bool true] 61)).drew).grownBy W' (Value.slice av (lessO LL ii).length ac).ownBlock → Mov (fun j => (Value.slice av (lessO LL ii).length ac).ownBlock = some j) wB W') := hide fun W' hg => by
        have hA : Below wB.heap.size wB ((wB.alloc (.cells #[.int .i64 X, .bool Y, .bool true] 61)).drew) := (below1 wB _).drew
        exact ⟨hg.os.trans hA.os, hg.tape.trans hA.tape, hg.output.trans hA.output, Nat.le_trans hA.size hg.size, fun j hj hS => (hg.block j (Nat.lt_of_lt_of_le hj hA.size) (fun e => hS e.symm)).trans (hA.block j hj)⟩
      have HM1 : Hid (Mov (fun j => (Value.slice av (lessO LL ii).length ac).ownBlock = some j) wB ((wB.alloc (.cells #[.int .i64 X, .bool Y, .bool true] 61)).drew)) := hide (Mov.of_below (below1 wB _).drew)
      have fin : Hid (∀ a6 c6 w6, Mov (fun j => (Value.slice av (lessO LL ii).length ac).ownBlock = some j) wB w6 → w6.ownsRow base 61 3 (.slice a6 ((lessO LL ii).length + 1) c6) ((lessO LL ii).length + 1) (cO (lessO LL ii ++ [⟨X, Y, true⟩])) → ((Value.slice a6 ((lessO LL ii).length + 1) c6).ownBlock = (Value.slice av (lessO LL ii).length ac).ownBlock ∨ (Value.slice a6 ((lessO LL ii).length + 1) c6).ownBlock = some (wB.alloc (.cells #[.int .i64 X, .bool Y, .bool true] 61)).drew.heap.size) → Lp w0 R base u ((q.take (k + 1)).foldl mvO l) (some ⟨g, off, none⟩) q (w6.setCell ⟨R, 0, none⟩ (.slice a6 ((lessO LL ii).length + 1) c6))) := hide fun a6 c6 w6 m6 ho6 hat6 => by
        rw [HFT.out, ← HX2.out, HMV.out]
        refine Lp.now HV1.out HW1.out HF1.out ?_
        have hN2 : NowR R base (.slice av (lessO LL ii).length ac) (lessO LL ii ++ [⟨X, Y, true⟩]) wB (w6.setCell ⟨R, 0, none⟩ (.slice a6 ((lessO LL ii).length + 1) c6)) := app_rowR hAB m6 ho6 (fun j hj => by
          rcases hat6 with p | p
          · exact Or.inr (p.symm.trans hj)
          · rw [p] at hj
            have hj2 := Option.some.inj hj
            have : wB.heap.size ≤ (wB.alloc (.cells #[.int .i64 X, .bool Y, .bool true] 61)).drew.heap.size := (below1 wB _).drew.size
            exact Or.inl (by omega))
        exact NowR.next (hV2.trans (Mov.of_below hbB)) hW2 hN2
      have E1 := hide ((hAB.row.alloc (.cells #[.int .i64 X, .bool Y, .bool true] 61)).drew)
      have hRl := hAB.lt
      have hbs3 : base ≤ wB.heap.size := Nat.le_trans (Nat.le_trans hbs1 hV2.size) hbB.size
      have c4 : (w3.alloc (.cells #[.int .i64 X, .bool Y, .bool Z] 61)).frozen? ⟨w3.heap.size, 2, none⟩ = false := Lib.frozen_of_heap (heap_alloc_new _ _) 2
      have hnl : (lessO LL ii).length ≤ 1000 := by omega
      clear hA2 hV2 hW2 hbB hbo hAB hon HO HA p0 hqk
      generalize (lessO LL ii).length = n at *
      generalize hL1 : lessO LL ii = L1 at *
      clear hL1 hll x1
      go_wp2_with fail
      rw [← hwB, ← hob]
      clear hwB hzB hob c4
      refine wp_region_noPanic ?_
      refine wp_region_last_drew (L := 10) (S := fun w' => Mov (fun j => (Value.slice av n ac).ownBlock = some j) wB w' ∧ w'.cell? ⟨R, 0, none⟩ = some (.slice av n ac) ∧ w'.cell? ⟨ob, 0, none⟩ = some (.int .i64 X) ∧ w'.cell? ⟨ob, 1, none⟩ = some (.bool Y) ∧ w'.cell? ⟨ob, 2, none⟩ = some (.bool true)) (by kernel_rfl) ?_ (fun hHeld => ?_)
      · exact HS.out _ (Mov.of_below (Below.refl _ _).drew)
      refine wpAnyL_take (i := 0) (v := ?_) rfl (by kernel_rfl) (by kernel_rfl) (by kernel_rfl) (by kernel_rfl) (fun _ _ _ h => h) (Or.inl ⟨by rfl, ?_⟩) (by first | trivial | assumption) ?_
      rotate_left 1
      · (intro w hSw; (try dsimp only at hSw); go_simp; all_goals with_reducible rfl)
      try simp only [Act.put, List.setIfInBounds_toArray, List.set_cons_zero, List.set_cons_succ]
      refine wpAnyL_take (i := 1) (v := ?_) rfl (by kernel_rfl) (by kernel_rfl) (by kernel_rfl) (by kernel_rfl) (fun _ _ _ h => h) (Or.inl ⟨by rfl, ?_⟩) (by first | trivial | assumption) ?_
      rotate_left 1
      · (intro w hSw; (try dsimp only at hSw); go_simp; all_goals with_reducible rfl)
      try simp only [Act.put, List.setIfInBounds_toArray, List.set_cons_zero, List.set_cons_succ]
      refine wpAnyL_take (i := 2) (v := ?_) rfl (by kernel_rfl) (by kernel_rfl) (by kernel_rfl) (by kernel_rfl) (fun _ _ _ h => h) (Or.inl ⟨by rfl, ?_⟩) (by first | trivial | assumption) ?_
      rotate_left 1
      · (intro w hSw; (try dsimp only at hSw); go_simp; all_goals with_reducible rfl)
      try simp only [Act.put, List.setIfInBounds_toArray, List.set_cons_zero, List.set_cons_succ]
      refine wpAnyL_take (i := 3) (v := ?_) rfl (by kernel_rfl) (by kernel_rfl) (by kernel_rfl) (by kernel_rfl) (fun _ _ _ h => h) (Or.inl ⟨by rfl, ?_⟩) (by first | trivial | assumption) ?_
      rotate_left 1
      · (intro w hSw; (try dsimp only at hSw); go_simp; all_goals with_reducible rfl)
      try simp only [Act.put, List.setIfInBounds_toArray, List.set_cons_zero, List.set_cons_succ]
      refine wpAnyL_take (i := 4) (v := ?_) rfl (by kernel_rfl) (by kernel_rfl) (by kernel_rfl) (by kernel_rfl) (fun _ _ _ h => h) (Or.inl ⟨by rfl, ?_⟩) (by first | trivial | assumption) ?_
      rotate_left 1
      · (intro w hSw; (try dsimp only at hSw); go_simp; all_goals with_reducible rfl)
      try simp only [Act.put, List.setIfInBounds_toArray, List.set_cons_zero, List.set_cons_succ]
      refine wpAnyL_take (i := 5) (v := ?_) rfl (by kernel_rfl) (by kernel_rfl) (by kernel_rfl) (by kernel_rfl) (fun _ _ _ h => h) (Or.inl ⟨by rfl, ?_⟩) (by first | trivial | assumption) ?_
      rotate_left 1
      · (intro w hSw; (try dsimp only at hSw); go_simp; all_goals with_reducible rfl)
      try simp only [Act.put, List.setIfInBounds_toArray, List.set_cons_zero, List.set_cons_succ]
      refine wpAnyL_ready (rs := [6]) (by kernel_rfl) (by simp) ?_
      refine AllReadyL.cons rfl (fun K hK => ?_) ?_
      · go_simp
        refine hK.out _ _ ?_ (fun hHeld => ?_)
        · (first | assumption | exact HS.out _ hM6 | exact HS.out _ HM1.out)
        clear hK K
        try simp only [Act.put, List.setIfInBounds_toArray, List.set_cons_zero, List.set_cons_succ]
        refine wpAnyL_ready (rs := [7]) (by kernel_rfl) (by simp) ?_
        refine AllReadyL.cons rfl (fun K hK => ?_) ?_
        · (refine step_append_o _ (by rfl) _ _ (by rfl) base _ n L1 (by rfl) E1.out (some ⟨wB.heap.size, 0, none⟩) 1 1 [⟨X, Y, true⟩] (by rfl) rfl (one_o (by simp) (by simp) (by simp) (by simp)) (by omega) (by simp; omega) ?_; intro a6 c6 w6 hown6 hgrow6 hat6; have hM6 : Mov (fun j => (Value.slice av n ac).ownBlock = some j) wB w6 := HG.out _ hgrow6; have H6 := HS.out _ hM6; have rc6 := H6.2.1; have rf6 := HFZ.out _ hM6; have hRl6 : R < w6.heap.size := Nat.lt_of_lt_of_le hRl hM6.size)
          refine hK.out _ _ ?_ (fun hHeld => ?_)
          · (first | assumption | exact HS.out _ hM6 | exact HS.out _ HM1.out)
          clear hK K
          try simp only [Act.put, List.setIfInBounds_toArray, List.set_cons_zero, List.set_cons_succ]
          refine wpAnyL_ready (rs := [8]) (by kernel_rfl) (by simp) ?_
          refine AllReadyL.cons rfl (fun K hK => ?_) ?_
          · go_simp
            refine hK.out _ _ ?_ (fun hHeld => ?_)
            · (first | assumption | exact HS.out _ hM6 | exact HS.out _ HM1.out)
            clear hK K
            try simp only [Act.put, List.setIfInBounds_toArray, List.set_cons_zero, List.set_cons_succ]
            refine wpAnyL_take (i := 9) (v := ?_) rfl (by kernel_rfl) (by kernel_rfl) (by kernel_rfl) (by kernel_rfl) (fun _ _ _ h => h) (Or.inl ⟨by rfl, ?_⟩) (by first | trivial | assumption) ?_
            rotate_left 1
            · (intro w hSw; (try dsimp only at hSw); go_simp; all_goals with_reducible rfl)
            try simp only [Act.put, List.setIfInBounds_toArray, List.set_cons_zero, List.set_cons_succ]
            refine wpAnyL_ready (rs := [10]) (by kernel_rfl) (by simp) ?_
            refine AllReadyL.last rfl (fun K hK => ?_)
            go_simp
            refine hK.out _ _ ?_
            clear hK K
            try simp only [Act.put, List.setIfInBounds_toArray, List.set_cons_zero, List.set_cons_succ]
            refine wpAnyL_done (by kernel_rfl) ?_ _
            (refine NoPanic.normal ?_; have HF := hide (fin.out _ _ _ hM6 hown6 hat6); clear hown6 hgrow6 hat6 H6 rc6 rf6 hRl6 hM6 hHeld E1 HM1 HG HFZ; go_wp2_with fail; go_roundw; (case rel => exact ⟨k + 1, by go_num, by omega, HF⟩); (case measure => simp [intOf]; omega))
          exact AllReadyL.nil
        exact AllReadyL.nil
      exact AllReadyL.nil

    · have ek : qn ≤ k := by omega
      have HD : Hid (NowR R base u (q.foldl mvO l) w0 wr ∧ RowZ wr qa q) := hide (by
        have := HL.out.done
        have et : q.take k = q := List.take_of_length_le (by rw [HQN.out]; exact ek)
        rw [et] at this
        exact this)
      have e1 : ¬ ((k : Int) < (qn : Int)) := by omega
      clear HL ek
      go_wp2
      go_ret
      exact ⟨qa, ⟨_, rfl⟩, HD.out.1, HD.out.2⟩

set_option maxRecDepth 20000 in
set_option maxHeartbeats 8000000 in
set_option linter.unusedSimpArgs false in
theorem hand_write (R base : Nat) (u : Value) (l : List Wn) (hl : l.length ≤ 1000) (hnd : (ts l).Nodup) (w0 : World) (hR : AtR w0 R base u l) (hbs : base ≤ w0.heap.size) (hx : wrO l = 0) (y : Int) (q0 : List Int) (hy : kinds l true false = y :: q0) (hz : kinds l false true = []) (q : List Int) (hq : q = [y]) :
    Calls Try.prog 34 #[.pointer (some ⟨R, 0, none⟩)] w0 fun e w' => ∃ a c, e = .returned (.slice a 1 c) ∧ NowR R base u (q.foldl mvO l) w0 w' ∧ RowZ w' a q := by
  have HW := hide (fun W (k : Below w0.heap.size w0 W) => rwriter_any R base u l hl W (hR.below k))
  have HT := hide (fun W (k : Below w0.heap.size w0 W) => tasks_any R base u l hl true false W (hR.below k))
  have HT2 := hide (fun W (k : Below w0.heap.size w0 W) => tasks_any R base u l hl false true W (hR.below k))
  have HR := hide hR
  have HND := hide hnd
  have HQ := hide hq
  have HIN : Hid (∀ t ∈ q, inZ (ts l) t = true) := hide fun t ht => by
    have : t = y := by rw [hq] at ht; simpa using ht
    rw [this]
    exact inZ_true.2 ((kinds_sub l true false).subset (by rw [hy]; exact List.mem_cons_self))
  rw [hx] at HW
  rw [hy] at HT
  rw [hz] at HT2
  clear hR hnd hx hy hz hq
  have hbn := below1 w0 (.cells #[] 3)
  go_enter Try.func34, Try.ntmps34
  go_wp2_with fail
  refine (HW.out _ hbn).mono ?_
  rintro e w1 ⟨rfl, hb1⟩
  have HB1 := hide (below_next hbn hb1)
  clear hbn hb1 HW
  go_wp2_with fail
  refine (HT.out _ HB1.out).mono ?_
  rintro e w2 ⟨r, rfl, ho2, hb2⟩
  obtain ⟨ra, rc, hrv, hg1, hg2, hg3, hg4, hg5⟩ := next_open ho2
  subst hrv
  have HB2 := hide (below_next HB1.out hb2)
  have HG : Hid (w0.heap.size ≤ ra) := hide (Nat.le_trans HB1.out.size hg1)
  clear ho2 hb2 HT hg1
  have hp : (((q0.length : Int) + 1) == 0) = false := by simp; omega
  have hp1 : (1 : Int) ≤ (rc : Int) := by omega
  rw [List.length_cons]
  go_wp2_with fail
  refine (HT2.out _ HB2.out).mono ?_
  rintro e w3 ⟨r, rfl, ho3, hb3⟩
  obtain ⟨ua, uc, rfl⟩ := owns_slice ho3
  have HL0 : Hid (Lp w0 R base u ((q.take 0).foldl mvO l) (some ⟨ra, 0, none⟩) q w3) := hide (Lp.start HR.out (below_next HB2.out hb3) (fun _ => ⟨ra, 0, rfl, HG.out, Nat.lt_of_lt_of_le hg2 hb3.size, fun k hk => by
    rw [HQ.out] at hk ⊢
    obtain rfl : k = 0 := by simp at hk; omega
    exact (World.cell?_of_block (hb3.block ra hg2)).trans hg3⟩))
  clear ho3 hb3 HT2 HB2 HR HB1 hg2 hg3 HG
  have HQN : Hid (q.length = 1) := by show q.length = 1; rw [HQ.out]; rfl
  have hqs : (1 : Nat) ≤ 1000 := by omega
  obtain ⟨qa, hqa⟩ : ∃ qa : Option Addr, qa = some ⟨ra, 0, none⟩ := ⟨_, rfl⟩
  rw [← hqa] at HL0 ⊢
  clear hqa
  go_wp2_with fail

  go_loopw [5] (fun i wr => ∃ k : Nat, i = .int .i64 k ∧ k ≤ 1 ∧ Hid (Lp w0 R base u ((q.take k).foldl mvO l) qa q wr)) (fun i _ => 1 - (intOf i).toNat)
  case atStart => exact ⟨0, rfl, Nat.zero_le _, HL0⟩
  case round =>
    obtain ⟨k, rfl, hk, HL⟩ := hrel
    by_cases hlt : k < 1
    · obtain ⟨u1, hA1, hV1, hW1, hF1⟩ := HL.out
      have hqk : k < q.length := by rw [HQN.out]; exact hlt
      have hne : q ≠ [] := fun e => by rw [e] at hqk; simp at hqk
      obtain ⟨g, off, hqa, _, hgl, hcell⟩ := hF1 hne
      have p0 := hcell k hqk
      subst hqa
      obtain ⟨m1, m2, m3⟩ := mv_fold (q.take k) HND.out (fun t ht => HIN.out t (List.mem_of_mem_take ht))
      have hi : inZ (ts ((q.take k).foldl mvO l)) (gz q k) = true := by rw [m2]; exact HIN.out _ (gz_mem hqk)
      have HFT := hide (fold_take (l := l) hqk)
      obtain ⟨LL, hLL⟩ : ∃ LL, (q.take k).foldl mvO l = LL := ⟨_, rfl⟩
      rw [hLL] at hA1 m3 hi HFT
      obtain ⟨x1, x2, x3⟩ := idx_here hi
      have hlen : LL.length ≤ 1000 := by omega
      have A := at_any R base u1 LL hlen (gz q k) wr hA1
      rw [x3] at A
      have HA := hide A
      have hbs1 : base ≤ wr.heap.size := Nat.le_trans hbs hV1.size
      have HO := hide (out_any R base u1 LL hlen (idxN LL (gz q k)) x1 wr hA1 hbs1)
      have HA1 := hide hA1
      have HV1 := hide hV1
      have HW1 := hide hW1
      have HF1 := hide hF1
      have e1 : (k : Int) < 1 := by omega
      have e0 : (0 : Int) ≤ (k : Int) := by omega
      have hll := less_len x1
      have HLL := hide hLL
      obtain ⟨ii, hii⟩ : ∃ ii, idxN LL (gz q k) = ii := ⟨_, rfl⟩
      rw [hii] at HA HO x1 x2 hll
      obtain ⟨X, hX⟩ : ∃ X, (wn LL ii).t = X := ⟨_, rfl⟩
      obtain ⟨Y, hY⟩ : ∃ Y, (wn LL ii).w = Y := ⟨_, rfl⟩
      obtain ⟨Z, hZ⟩ : ∃ Z, (wn LL ii).h = Z := ⟨_, rfl⟩
      have HMV : Hid (mvO LL (gz q k) = lessO LL ii ++ [⟨X, Y, true⟩]) := hide (by unfold mvO; rw [hii, hX, hY])
      rw [hX] at x2
      rw [hX, hY, hZ] at HO
      rw [← x2] at p0 HA HMV
      have HX2 : Hid (X = gz q k) := x2
      clear A hA1 hV1 hW1 hF1 hcell hi m1 m2 m3 hLL hii hX hY hZ x2 x3 hne HL
      go_wp2_with fail
      refine HA.out.mono ?_
      rintro e w2 ⟨rfl, hw2⟩
      subst hw2
      go_wp2_with fail
      refine HO.out.mono ?_
      rintro e w3 ⟨rfl, hN⟩
      obtain ⟨u2, hA2, hV2, hW2⟩ := hN
      obtain ⟨wB, hwB⟩ : ∃ wB, wB = w3.alloc (.cells #[.int .i64 X, .bool Y, .bool true] 61) := ⟨_, rfl⟩
      obtain ⟨ob, hob⟩ : ∃ ob, ob = w3.heap.size := ⟨_, rfl⟩
      have hbB : Below w3.heap.size w3 wB := by rw [hwB]; exact below1 w3 _
      have hzB : wB.heap.size = ob + 1 := by rw [hwB, hob]; simp
      have hbo : wB.heap[ob]? = some (.cells #[.int .i64 X, .bool Y, .bool true] 61 (0, 0)) := by
        rw [hwB, hob]
        exact heap_alloc_new _ _
      have hAB := hA2.below hbB
      obtain ⟨av, ac, hv⟩ := owns_slice hA2.row
      subst hv
      have hon : ∀ j, (Value.slice av (lessO LL ii).length ac).ownBlock = some j → j < ob := fun j hj => by rw [hob]; exact (hA2.row.lt j hj).2
      have HS : Hid (∀ W', Mov (fun j => (Value.slice av (lessO LL ii).length ac).ownBlock = some j) wB W' → Mov (fun j => (Value.slice av (lessO LL ii).length ac).ownBlock = some j) wB W' ∧ W'.cell? ⟨R, 0, none⟩ = some (.slice av (lessO LL ii).length ac) ∧ W'.cell? ⟨ob, 0, none⟩ = some (.int .i64 X) ∧ W'.cell? ⟨ob, 1, none⟩ = some (.bool Y) ∧ W'.cell? ⟨ob, 2, none⟩ = some (.bool true)) := hide fun W' m => by
        have hb2 := (m.block ob (by omega) (fun e => by have := hon ob e; omega)).trans hbo
        exact ⟨m, (World.cell?_of_block (m.block R hAB.lt hAB.far)).trans hAB.cells.1, Lib.cell_of_heap hb2 0, Lib.cell_of_heap hb2 1, Lib.cell_of_heap hb2 2⟩
      have HFZ : Hid (∀ W', Mov (fun j => (Value.slice av (lessO LL ii).length ac).ownBlock = some j) wB W' → W'.frozen? ⟨R, 0, none⟩ = false) := hide fun W' m =>
        Lib.frozen_of_heap ((m.block R hAB.lt hAB.far).trans hAB.box) 0
      have HG : Hid (∀ W', ((wB.alloc (.cells #[.int .i64 X, .bool Y, .bool true] 61)).drew).grownBy W' (Value.slice av (lessO LL ii).length ac).ownBlock → Mov (fun j => (Value.slice av (lessO LL ii).length ac).ownBlock = some j) wB W') := hide fun W' hg => by
        have hA : Below wB.heap.size wB ((wB.alloc (.cells #[.int .i64 X, .bool Y, .bool true] 61)).drew) := (below1 wB _).drew
        exact ⟨hg.os.trans hA.os, hg.tape.trans hA.tape, hg.output.trans hA.output, Nat.le_trans hA.size hg.size, fun j hj hS => (hg.block j (Nat.lt_of_lt_of_le hj hA.size) (fun e => hS e.symm)).trans (hA.block j hj)⟩
      have HM1 : Hid (Mov (fun j => (Value.slice av (lessO LL ii).length ac).ownBlock = some j) wB ((wB.alloc (.cells #[.int .i64 X, .bool Y, .bool true] 61)).drew)) := hide (Mov.of_below (below1 wB _).drew)
      have fin : Hid (∀ a6 c6 w6, Mov (fun j => (Value.slice av (lessO LL ii).length ac).ownBlock = some j) wB w6 → w6.ownsRow base 61 3 (.slice a6 ((lessO LL ii).length + 1) c6) ((lessO LL ii).length + 1) (cO (lessO LL ii ++ [⟨X, Y, true⟩])) → ((Value.slice a6 ((lessO LL ii).length + 1) c6).ownBlock = (Value.slice av (lessO LL ii).length ac).ownBlock ∨ (Value.slice a6 ((lessO LL ii).length + 1) c6).ownBlock = some (wB.alloc (.cells #[.int .i64 X, .bool Y, .bool true] 61)).drew.heap.size) → Lp w0 R base u ((q.take (k + 1)).foldl mvO l) (some ⟨g, off, none⟩) q (w6.setCell ⟨R, 0, none⟩ (.slice a6 ((lessO LL ii).length + 1) c6))) := hide fun a6 c6 w6 m6 ho6 hat6 => by
        rw [HFT.out, ← HX2.out, HMV.out]
        refine Lp.now HV1.out HW1.out HF1.out ?_
        have hN2 : NowR R base (.slice av (lessO LL ii).length ac) (lessO LL ii ++ [⟨X, Y, true⟩]) wB (w6.setCell ⟨R, 0, none⟩ (.slice a6 ((lessO LL ii).length + 1) c6)) := app_rowR hAB m6 ho6 (fun j hj => by
          rcases hat6 with p | p
          · exact Or.inr (p.symm.trans hj)
          · rw [p] at hj
            have hj2 := Option.some.inj hj
            have : wB.heap.size ≤ (wB.alloc (.cells #[.int .i64 X, .bool Y, .bool true] 61)).drew.heap.size := (below1 wB _).drew.size
            exact Or.inl (by omega))
        exact NowR.next (hV2.trans (Mov.of_below hbB)) hW2 hN2
      have E1 := hide ((hAB.row.alloc (.cells #[.int .i64 X, .bool Y, .bool true] 61)).drew)
      have hRl := hAB.lt
      have hbs3 : base ≤ wB.heap.size := Nat.le_trans (Nat.le_trans hbs1 hV2.size) hbB.size
      have c4 : (w3.alloc (.cells #[.int .i64 X, .bool Y, .bool Z] 61)).frozen? ⟨w3.heap.size, 2, none⟩ = false := Lib.frozen_of_heap (heap_alloc_new _ _) 2
      have hnl : (lessO LL ii).length ≤ 1000 := by omega
      clear hA2 hV2 hW2 hbB hbo hAB hon HO HA p0 hqk
      generalize (lessO LL ii).length = n at *
      generalize hL1 : lessO LL ii = L1 at *
      clear hL1 hll x1
      go_wp2_with fail
      rw [← hwB, ← hob]
      clear hwB hzB hob c4
      refine wp_region_noPanic ?_
      refine wp_region_last_drew (L := 10) (S := fun w' => Mov (fun j => (Value.slice av n ac).ownBlock = some j) wB w' ∧ w'.cell? ⟨R, 0, none⟩ = some (.slice av n ac) ∧ w'.cell? ⟨ob, 0, none⟩ = some (.int .i64 X) ∧ w'.cell? ⟨ob, 1, none⟩ = some (.bool Y) ∧ w'.cell? ⟨ob, 2, none⟩ = some (.bool true)) (by kernel_rfl) ?_ (fun hHeld => ?_)
      · exact HS.out _ (Mov.of_below (Below.refl _ _).drew)
      refine wpAnyL_take (i := 0) (v := ?_) rfl (by kernel_rfl) (by kernel_rfl) (by kernel_rfl) (by kernel_rfl) (fun _ _ _ h => h) (Or.inl ⟨by rfl, ?_⟩) (by first | trivial | assumption) ?_
      rotate_left 1
      · (intro w hSw; (try dsimp only at hSw); go_simp; all_goals with_reducible rfl)
      try simp only [Act.put, List.setIfInBounds_toArray, List.set_cons_zero, List.set_cons_succ]
      refine wpAnyL_take (i := 1) (v := ?_) rfl (by kernel_rfl) (by kernel_rfl) (by kernel_rfl) (by kernel_rfl) (fun _ _ _ h => h) (Or.inl ⟨by rfl, ?_⟩) (by first | trivial | assumption) ?_
      rotate_left 1
      · (intro w hSw; (try dsimp only at hSw); go_simp; all_goals with_reducible rfl)
      try simp only [Act.put, List.setIfInBounds_toArray, List.set_cons_zero, List.set_cons_succ]
      refine wpAnyL_take (i := 2) (v := ?_) rfl (by kernel_rfl) (by kernel_rfl) (by kernel_rfl) (by kernel_rfl) (fun _ _ _ h => h) (Or.inl ⟨by rfl, ?_⟩) (by first | trivial | assumption) ?_
      rotate_left 1
      · (intro w hSw; (try dsimp only at hSw); go_simp; all_goals with_reducible rfl)
      try simp only [Act.put, List.setIfInBounds_toArray, List.set_cons_zero, List.set_cons_succ]
      refine wpAnyL_take (i := 3) (v := ?_) rfl (by kernel_rfl) (by kernel_rfl) (by kernel_rfl) (by kernel_rfl) (fun _ _ _ h => h) (Or.inl ⟨by rfl, ?_⟩) (by first | trivial | assumption) ?_
      rotate_left 1
      · (intro w hSw; (try dsimp only at hSw); go_simp; all_goals with_reducible rfl)
      try simp only [Act.put, List.setIfInBounds_toArray, List.set_cons_zero, List.set_cons_succ]
      refine wpAnyL_take (i := 4) (v := ?_) rfl (by kernel_rfl) (by kernel_rfl) (by kernel_rfl) (by kernel_rfl) (fun _ _ _ h => h) (Or.inl ⟨by rfl, ?_⟩) (by first | trivial | assumption) ?_
      rotate_left 1
      · (intro w hSw; (try dsimp only at hSw); go_simp; all_goals with_reducible rfl)
      try simp only [Act.put, List.setIfInBounds_toArray, List.set_cons_zero, List.set_cons_succ]
      refine wpAnyL_take (i := 5) (v := ?_) rfl (by kernel_rfl) (by kernel_rfl) (by kernel_rfl) (by kernel_rfl) (fun _ _ _ h => h) (Or.inl ⟨by rfl, ?_⟩) (by first | trivial | assumption) ?_
      rotate_left 1
      · (intro w hSw; (try dsimp only at hSw); go_simp; all_goals with_reducible rfl)
      try simp only [Act.put, List.setIfInBounds_toArray, List.set_cons_zero, List.set_cons_succ]
      refine wpAnyL_ready (rs := [6]) (by kernel_rfl) (by simp) ?_
      refine AllReadyL.cons rfl (fun K hK => ?_) ?_
      · go_simp
        refine hK.out _ _ ?_ (fun hHeld => ?_)
        · (first | assumption | exact HS.out _ hM6 | exact HS.out _ HM1.out)
        clear hK K
        try simp only [Act.put, List.setIfInBounds_toArray, List.set_cons_zero, List.set_cons_succ]
        refine wpAnyL_ready (rs := [7]) (by kernel_rfl) (by simp) ?_
        refine AllReadyL.cons rfl (fun K hK => ?_) ?_
        · (refine step_append_o _ (by rfl) _ _ (by rfl) base _ n L1 (by rfl) E1.out (some ⟨wB.heap.size, 0, none⟩) 1 1 [⟨X, Y, true⟩] (by rfl) rfl (one_o (by simp) (by simp) (by simp) (by simp)) (by omega) (by simp; omega) ?_; intro a6 c6 w6 hown6 hgrow6 hat6; have hM6 : Mov (fun j => (Value.slice av n ac).ownBlock = some j) wB w6 := HG.out _ hgrow6; have H6 := HS.out _ hM6; have rc6 := H6.2.1; have rf6 := HFZ.out _ hM6; have hRl6 : R < w6.heap.size := Nat.lt_of_lt_of_le hRl hM6.size)
          refine hK.out _ _ ?_ (fun hHeld => ?_)
          · (first | assumption | exact HS.out _ hM6 | exact HS.out _ HM1.out)
          clear hK K
          try simp only [Act.put, List.setIfInBounds_toArray, List.set_cons_zero, List.set_cons_succ]
          refine wpAnyL_ready (rs := [8]) (by kernel_rfl) (by simp) ?_
          refine AllReadyL.cons rfl (fun K hK => ?_) ?_
          · go_simp
            refine hK.out _ _ ?_ (fun hHeld => ?_)
            · (first | assumption | exact HS.out _ hM6 | exact HS.out _ HM1.out)
            clear hK K
            try simp only [Act.put, List.setIfInBounds_toArray, List.set_cons_zero, List.set_cons_succ]
            refine wpAnyL_take (i := 9) (v := ?_) rfl (by kernel_rfl) (by kernel_rfl) (by kernel_rfl) (by kernel_rfl) (fun _ _ _ h => h) (Or.inl ⟨by rfl, ?_⟩) (by first | trivial | assumption) ?_
            rotate_left 1
            · (intro w hSw; (try dsimp only at hSw); go_simp; all_goals with_reducible rfl)
            try simp only [Act.put, List.setIfInBounds_toArray, List.set_cons_zero, List.set_cons_succ]
            refine wpAnyL_ready (rs := [10]) (by kernel_rfl) (by simp) ?_
            refine AllReadyL.last rfl (fun K hK => ?_)
            go_simp
            refine hK.out _ _ ?_
            clear hK K
            try simp only [Act.put, List.setIfInBounds_toArray, List.set_cons_zero, List.set_cons_succ]
            refine wpAnyL_done (by kernel_rfl) ?_ _
            (refine NoPanic.normal ?_; have HF := hide (fin.out _ _ _ hM6 hown6 hat6); clear hown6 hgrow6 hat6 H6 rc6 rf6 hRl6 hM6 hHeld E1 HM1 HG HFZ; go_wp2_with fail; go_roundw; (case rel => exact ⟨k + 1, by go_num, by omega, HF⟩); (case measure => simp [intOf]; omega))
          exact AllReadyL.nil
        exact AllReadyL.nil
      exact AllReadyL.nil

    · have ek : 1 ≤ k := by omega
      have HD : Hid (NowR R base u (q.foldl mvO l) w0 wr ∧ RowZ wr qa q) := hide (by
        have := HL.out.done
        have et : q.take k = q := List.take_of_length_le (by rw [HQN.out]; exact ek)
        rw [et] at this
        exact this)
      have e1 : ¬ ((k : Int) < 1) := by omega
      clear HL ek
      go_wp2
      go_ret
      exact ⟨qa, ⟨_, rfl⟩, HD.out.1, HD.out.2⟩

set_option maxHeartbeats 2000000 in
theorem hand_none (R base : Nat) (u : Value) (l : List Wn) (hl : l.length ≤ 1000) (w0 : World) (hR : AtR w0 R base u l) (hx : wrO l ≠ 0) :
    Calls Try.prog 34 #[.pointer (some ⟨R, 0, none⟩)] w0 fun e w' => ∃ a c, e = .returned (.slice a 0 c) ∧ NowR R base u l w0 w' := by
  have HW := hide (fun W (k : Below w0.heap.size w0 W) => rwriter_any R base u l hl W (hR.below k))
  have HR := hide hR
  have hx' : (wrO l != 0) = true := by simpa using hx
  clear hR hx
  generalize wrO l = X at *
  have hbn := below1 w0 (.cells #[] 3)
  go_enter Try.func34, Try.ntmps34
  go_wp2_with fail
  refine (HW.out _ hbn).mono ?_
  rintro e w1 ⟨rfl, hb1⟩
  have HB1 := hide (below_next hbn hb1)
  clear hbn hb1 HW
  go_wp2
  go_ret
  exact ⟨_, _, rfl, NowR.same HR.out HB1.out⟩
set_option maxHeartbeats 2000000 in
theorem hand_no (R base : Nat) (u : Value) (l : List Wn) (hl : l.length ≤ 1000) (w0 : World) (hR : AtR w0 R base u l) (hx : wrO l = 0) (hy : kinds l true false ≠ []) (hz : kinds l false true ≠ []) :
    Calls Try.prog 34 #[.pointer (some ⟨R, 0, none⟩)] w0 fun e w' => ∃ a c, e = .returned (.slice a 0 c) ∧ NowR R base u l w0 w' := by
  have HW := hide (fun W (k : Below w0.heap.size w0 W) => rwriter_any R base u l hl W (hR.below k))
  have HT := hide (fun W (k : Below w0.heap.size w0 W) => tasks_any R base u l hl true false W (hR.below k))
  have HT2 := hide (fun W (k : Below w0.heap.size w0 W) => tasks_any R base u l hl false true W (hR.below k))
  have HR := hide hR
  have n1 : (((kinds l true false).length : Int) == 0) = false := by have := List.length_pos_iff.2 hy; simp; omega
  have n2 : (((kinds l false true).length : Int) == 0) = false := by have := List.length_pos_iff.2 hz; simp; omega
  rw [hx] at HW
  clear hR hx hy hz
  generalize kinds l true false = q1 at *
  generalize kinds l false true = q2 at *
  have hbn := below1 w0 (.cells #[] 3)
  go_enter Try.func34, Try.ntmps34
  go_wp2_with fail
  refine (HW.out _ hbn).mono ?_
  rintro e w1 ⟨rfl, hb1⟩
  have HB1 := hide (below_next hbn hb1)
  clear hbn hb1 HW
  go_wp2_with fail
  refine (HT.out _ HB1.out).mono ?_
  rintro e w2 ⟨r, rfl, ho2, hb2⟩
  obtain ⟨ra, rc, rfl⟩ := owns_slice ho2
  have HB2 := hide (below_next HB1.out hb2)
  clear ho2 hb2 HT HB1
  generalize q1.length = m1 at *
  go_wp2_with fail
  refine (HT2.out _ HB2.out).mono ?_
  rintro e w3 ⟨r, rfl, ho3, hb3⟩
  obtain ⟨qa, qc, rfl⟩ := owns_slice ho3
  have HB3 := hide (below_next HB2.out hb3)
  clear ho3 hb3 HT2 HB2
  generalize q2.length = m2 at *
  go_wp2_with fail
  go_loopw [5] (fun i wr => i = .int .i64 0 ∧ wr = w3) (fun _ _ => 0)
  case atStart => exact ⟨rfl, rfl⟩
  case round =>
    obtain ⟨rfl, rfl⟩ := hrel
    go_wp2
    go_ret
    exact ⟨_, _, rfl, NowR.same HR.out HB3.out⟩

theorem rhand_any (R base : Nat) (u : Value) (l : List Wn) (hl : l.length ≤ 1000) (hnd : (ts l).Nodup) (w0 : World) (hR : AtR w0 R base u l) (hbs : base ≤ w0.heap.size) :
    Calls Try.prog 34 #[.pointer (some ⟨R, 0, none⟩)] w0 fun e w' => ∃ a c, e = .returned (.slice a (handLo l).length c) ∧ NowR R base u (handLL l) w0 w' ∧ RowZ w' a (handLo l) := by
  unfold handLL handLo
  by_cases hx : wrO l = 0
  · have n0 : ¬ (wrO l ≠ 0) := fun q => q hx
    simp only [if_neg n0]
    by_cases hy : kinds l true false = []
    · simp only [if_pos hy]
      exact hand_read R base u l hl hnd w0 hR hbs hx hy
    · simp only [if_neg hy]
      by_cases hz : kinds l false true = []
      · simp only [if_pos hz]
        cases hq : kinds l true false with
        | nil => exact absurd hq hy
        | cons y q0 => exact hand_write R base u l hl hnd w0 hR hbs hx y q0 hq hz [y] rfl
      · simp only [if_neg hz]
        refine (hand_no R base u l hl w0 hR hx hy hz).mono fun e w' k => ?_
        obtain ⟨a, c, rfl, k2⟩ := k
        exact ⟨a, c, rfl, k2, fun h => absurd rfl h⟩
  · simp only [ne_eq, hx, not_false_eq_true, if_true]
    refine (hand_none R base u l hl w0 hR hx).mono fun e w' k => ?_
    obtain ⟨a, c, rfl, k2⟩ := k
    exact ⟨a, c, rfl, k2, fun h => absurd rfl h⟩

end Go.Proofs.Ytggfndokmdpaeaa
