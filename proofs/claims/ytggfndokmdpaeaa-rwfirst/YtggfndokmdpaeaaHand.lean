/-
  What the program's handToReaders, handToWriter and handOn come to.
-/
import Derived.Test.YtggfndokmdpaeaaApp
namespace Go.Proofs.Ytggfndokmdpaeaa
open Go.RowKit

/-- An answer: numbers that lie in memory that is new, and nobody's. -/
def Ans (n : Nat) (S : Nat → Prop) (w : World) (a : Option Addr) (l : List Int) : Prop := l ≠ [] → ∃ g off, a = some ⟨g, off, none⟩ ∧ n ≤ g ∧ g < w.heap.size ∧ ¬ S g ∧ ∀ k, k < l.length → w.cell? ⟨g, off + k, none⟩ = some (.int .i64 (gz l k))
theorem Ans.row {n : Nat} {S : Nat → Prop} {w : World} {a : Option Addr} {l : List Int} (h : Ans n S w a l) : RowZ w a l := fun hn => by
  obtain ⟨g, off, h1, _, h3, _, h5⟩ := h hn
  exact ⟨g, off, h1, h3, h5⟩
/-- What there is behind a call that answers who has it now. -/
def NowA (M base : Nat) (v : Vs) (s : St) (l : List Int) (w : World) (r : Value) (w' : World) : Prop :=
  ∃ v' a c, r = .slice a l.length c ∧ AtX w' M base v' s ∧ Mov (Mine M v) w w' ∧ (∀ k, Mine M v' k → w.heap.size ≤ k ∨ Mine M v k) ∧ Ans w.heap.size (Mine M v') w' a l

variable {w w1 w2 w' : World} {M base : Nat} {v v1 : Vs} {s s2 : St} {l : List Int} {r : Value}
theorem NowA.none (k : NowX M base v s2 w w') : NowA M base v s2 [] w (.slice none 0 0) w' := by
  obtain ⟨v', k1, k2, k3⟩ := k
  exact ⟨v', _, _, rfl, k1, k2, k3, fun h => absurd rfl h⟩
theorem NowX.ans (h : AtX w M base v s) (hb : Below w.heap.size w w1) (k : NowX M base v s2 w1 w') (ho : w1.ownsRow w.heap.size 3 1 r l.length (cZ l)) : NowA M base v s2 l w r w' := by
  obtain ⟨v', k1, k2, k3⟩ := k
  obtain ⟨a, c, rfl⟩ := owns_slice ho
  have hz := hb.size
  refine ⟨v', a, c, rfl, k1, (Mov.of_below hb).thn k2 (fun i hi => Or.inr hi), fun j hj => (k3 j hj).imp (fun q => by omega) id, fun hn => ?_⟩
  obtain ⟨g, c', hv, hg1, hg2, hc, _⟩ := row_open ho (List.length_pos_iff.2 hn)
  injection hv with e1
  have hnm : ¬ Mine M v g := fun q => by have := h.mine_lt q; omega
  refine ⟨g, 0, e1, hg1, Nat.lt_of_lt_of_le hg2 k2.size, fun q => ?_, fun j hj => ?_⟩
  · rcases k3 g q with q2 | q2
    · omega
    · exact hnm q2
  · rw [Nat.zero_add]
    exact (World.cell?_of_block (k2.block g hg2 hnm)).trans (hc j hj).1
theorem NowA.next (h2 : Mov (Mine M v) w w1) (h3 : ∀ k, Mine M v1 k → w.heap.size ≤ k ∨ Mine M v k) (k : NowA M base v1 s2 l w1 r w2) : NowA M base v s2 l w r w2 := by
  obtain ⟨v2, a, c, k0, k1, k2, k3, k4⟩ := k
  have hz := h2.size
  refine ⟨v2, a, c, k0, k1, h2.thn k2 fun i hi => h3 i hi, fun j hj => ?_, fun hn => ?_⟩
  · rcases k3 j hj with q | q
    · exact Or.inl (by omega)
    · exact h3 j q
  · obtain ⟨g, off, q1, q2, q3⟩ := k4 hn
    exact ⟨g, off, q1, by omega, q3⟩
theorem NowX.thenA (k : NowX M base v s w w1) (h : ∀ v1, AtX w1 M base v1 s → NowA M base v1 s2 l w1 r w2) : NowA M base v s2 l w r w2 := by
  obtain ⟨v1, k1, k2, k3⟩ := k
  exact (h v1 k1).next k2 k3
theorem AtX.setW (h : AtX w M base v s) (x : Int) : AtX (w.setCell ⟨M, 0, none⟩ (.int .i64 x)) M base v { s with w := x } :=
  ⟨box_set h.box, row_set h.ra h.far.1, row_set h.rb h.far.2.1, row_set h.rc h.far.2.2, h.ab, h.ac, h.bc⟩
theorem NowX.undrew (h : NowX M base v s2 w.drew w') : NowX M base v s2 w w' := by
  obtain ⟨v', k1, k2, k3⟩ := h
  exact ⟨v', k1, ⟨k2.os, k2.tape, k2.output, k2.size, k2.block⟩, k3⟩
theorem NowX.trans (k : NowX M base v s w w1) (h : ∀ v1, AtX w1 M base v1 s → NowX M base v1 s2 w1 w2) : NowX M base v s2 w w2 := by
  obtain ⟨v1, k1, k2, k3⟩ := k
  exact (h v1 k1).next k2 k3

set_option maxHeartbeats 1000000 in
theorem handR_any (M base : Nat) (v : Vs) (s : St) (hl : s.len ≤ 1000) (w : World) (hM : AtX w M base v s) (hbs : base ≤ w.heap.size) :
    Calls Try.prog 38 #[.pointer (some ⟨M, 0, none⟩)] w fun e w' => ∃ r, e = .returned r ∧ NowA M base v { s with rs := s.rs ++ s.tr, tr := [] } s.tr w r w' := by
  have hl' := St.lens hl
  have HC := hide (clone_row hM.rc hl'.2.2)
  have HM := hide hM
  obtain ⟨_, c1, c2, c3, cf⟩ := hM.cells
  clear hM hl cf
  go_enter Try.func38, Try.ntmps38
  go_wp2_with fail
  refine HC.out.mono ?_
  rintro e w2 ⟨u, rfl, ho2, hb2⟩
  clear HC
  have HM2 := hide (HM.out.below hb2)
  have HO2 := hide ho2
  have HB2 := hide hb2
  obtain ⟨_, d1, d2, d3, df⟩ := HM2.out.cells
  obtain ⟨ua, uc, hu⟩ := owns_slice ho2
  subst hu
  have hZ := hide (owns_rowZ HO2.out)
  obtain ⟨a1, k1, a2, k2, a3, k3, hv⟩ := HM2.out.forms
  have hR := HM2.out.ra
  have hMl := HM2.out.lt
  have hbs2 : base ≤ w2.heap.size := Nat.le_trans hbs hb2.size
  rw [hv] at d1 d2 d3 hR
  clear c1 c2 c3 ho2 hb2
  obtain ⟨n, hn⟩ : ∃ n, s.tr.length = n := ⟨_, rfl⟩
  have HN := hide hn
  obtain ⟨m, hm⟩ : ∃ m, s.rs.length = m := ⟨_, rfl⟩
  have HQ := hide hm
  dsimp only at d1 d2 d3 hR
  rw [hm] at d1 hR
  rw [hn] at d3
  have hnm : m + n ≤ 2000 := by omega
  have e2 : s.tr.length = n := hn
  rw [e2]
  clear hn hm e2 hl'
  go_wp2_with (at_builtin; refine wpList_append_z _ rfl _ _ rfl base _ m s.rs rfl hR ua n uc s.tr rfl HN.out hZ.out (by omega) hbs2 ?_)
  intro a4 c4 w4 ho4 hg4 hat4
  have ea : v.a.ownBlock = (Value.slice a1 m k1).ownBlock := by rw [hv]; cases a1 <;> rfl
  have hmov : Mov (fun j => v.a.ownBlock = some j) w2 w4 := by
    rw [ea]
    exact ⟨hg4.os, hg4.tape, hg4.output, hg4.size, fun k hk hS => hg4.block k hk (fun e => hS e.symm)⟩
  have HA1 := hide (NowX.setA (x := .slice a4 (m + n) c4) (l := s.rs ++ s.tr) HM2.out hmov (by rw [List.length_append, HQ.out, HN.out]; exact ho4) (fun k hk => by
    rcases hat4 with q | q
    · right; rw [ea]; exact q.symm.trans hk
    · left; rw [q] at hk; have := Option.some.inj hk; omega))
  have HA2 : Hid (NowX M base v { s with rs := s.rs ++ s.tr, tr := [] } w2 ((w4.setCell ⟨M, 1, none⟩ (.slice a4 (m + n) c4)).setCell ⟨M, 3, none⟩ (.slice none 0 0))) := hide (HA1.out.trans fun v1 hv1 => NowX.setC (l := []) hv1 (Mov.refl _ _) (World.ownsRow_nil _ _ _ _) (fun k hk => by simp [Value.ownBlock] at hk))
  have hbox : w4.heap[M]? = some (.cells #[.int .i64 s.w, v.a, v.b, v.c] 51 (0, 0)) := (hmov.block M HM2.out.lt HM2.out.far.1).trans HM2.out.box
  have f1 : w4.frozen? ⟨M, 1, none⟩ = false := Lib.frozen_of_heap hbox 1
  have f3 : w4.frozen? ⟨M, 3, none⟩ = false := Lib.frozen_of_heap hbox 3
  have g1 : w4.cell? ⟨M, 1, none⟩ = some v.a := Lib.cell_of_heap hbox 1
  have g3 : w4.cell? ⟨M, 3, none⟩ = some v.c := Lib.cell_of_heap hbox 3
  have hMl4 : M < w4.heap.size := (Array.getElem?_eq_some_iff.1 hbox).1
  have HF : Hid (NowA M base v { s with rs := s.rs ++ s.tr, tr := [] } s.tr w (.slice ua n uc) ((w4.setCell ⟨M, 1, none⟩ (.slice a4 (m + n) c4)).setCell ⟨M, 3, none⟩ (.slice none 0 0))) := hide (by
    have q := NowX.ans HM.out HB2.out HA2.out HO2.out
    rw [HN.out] at q
    exact q)
  clear ho4 hg4 hat4 hmov hbox HA1 HA2 hR d1 d2 d3 df HO2 hZ HN HQ
  go_wp2
  go_ret
  exact ⟨_, rfl, HF.out⟩

set_option maxHeartbeats 1000000 in
theorem handW_any (M base : Nat) (v : Vs) (s : St) (hl : s.len ≤ 1000) (y : Int) (q : List Int) (hq : s.tw = y :: q) (hnd : s.tw.Nodup) (w : World) (hM : AtX w M base v s) :
    Calls Try.prog 39 #[.pointer (some ⟨M, 0, none⟩)] w fun e w' => ∃ r, e = .returned r ∧ NowA M base v { s with w := y, tw := q } [y] w r w' := by
  obtain ⟨c0, c1, c2, c3, cf⟩ := hM.cells
  have cf0 := cf 0
  have hMl := hM.lt
  have hp : 0 < s.tw.length := by rw [hq]; simp
  obtain ⟨g, c, hvb, _, hgl, hcell, hc⟩ := row_open hM.rb hp
  obtain ⟨p0, _⟩ := hcell 0 hp
  have hgM : g ≠ M := fun e => hM.far.2.1 (by rw [hvb, e]; rfl)
  have hrm : rmZ s.tw y = q := by
    rw [hq] at hnd ⊢
    show (y :: q).filter _ = q
    rw [List.filter_cons_of_neg (by simp)]
    exact rm_none (inZ_false.2 (List.nodup_cons.1 hnd).1)
  have p0' : w.cell? ⟨g, 0, none⟩ = some (.int .i64 y) := by rw [p0, hq]; rfl
  have HA := hide (hM.setW y)
  have HT := takeB M base v { s with w := y } hl hnd y _ (HA.out.below (Below.refl _ _).drew)
  have hin : inZ s.tw y = true := inZ_true.2 (by rw [hq]; exact List.mem_cons_self)
  dsimp only at HT
  rw [hrm, hin] at HT
  have HTH := hide HT
  have hp' : (0 : Int) < (s.tw.length : Int) := by omega
  have HM := hide hM
  rw [hvb] at c2
  have f0 : (w.setCell ⟨M, 0, none⟩ (.int .i64 y)).cell? ⟨M, 0, none⟩ = some (.int .i64 y) := HA.out.cells.1
  clear hcell p0 HT hin hrm hM cf hl hnd hp hvb
  generalize s.tw.length = n at *
  go_enter Try.func39, Try.ntmps39
  go_wp2_with fail
  go_region_held3 (fun w' => w'.cell? ⟨M, 0, none⟩ = some (.int .i64 y)) (first | assumption | go_keep) (first | (go_at_call 30; refine HTH.out.mono ?_; rintro e w3 ⟨rfl, hN⟩; obtain ⟨v3, hA3, hV3, hW3⟩ := hN; have z0 := hA3.cells.1; dsimp only at z0))
  have HA3 := hide hA3
  have HV3 := hide hV3
  have HW3 := hide hW3
  have hMl3 := hA3.lt
  clear hA3 hV3 hW3 HTH f0 p0'
  go_wp2
  go_ret
  refine ⟨_, rfl, ?_⟩
  have hset : Mov (Mine M v) w (w.setCell ⟨M, 0, none⟩ (.int .i64 y)) := (Mov.refl _ _).set (p := ⟨M, 0, none⟩) (Or.inl rfl) _
  have hz3 : w.heap.size ≤ w3.heap.size := by have := HV3.out.size; simpa using this
  have hV : Mov (Mine M v) w w3 := hset.trans ⟨HV3.out.os, HV3.out.tape, HV3.out.output, HV3.out.size, HV3.out.block⟩
  have hM3 : ∀ k, Mine M v3 k → w.heap.size ≤ k ∨ Mine M v k := fun k hk => (HW3.out k hk).imp (fun q => by simpa using q) id
  have hfin := HA3.out.below (below1 w3 (.cells #[.int .i64 y] 3))
  refine ⟨v3, some ⟨w3.heap.size, 0, none⟩, 1, rfl, hfin, hV.trans (Mov.of_below (below1 _ _)), hM3, fun _ => ⟨w3.heap.size, 0, rfl, hz3, by simp, fun q => ?_, fun k hk => ?_⟩⟩
  · have := HA3.out.mine_lt q; omega
  · obtain rfl : k = 0 := by simp at hk; omega
    exact Lib.cell_of_heap (heap_alloc_new _ _) 0

set_option maxHeartbeats 1000000 in
theorem hand_any (M base : Nat) (v : Vs) (s : St) (hl : s.len ≤ 1000) (hnd : s.tw.Nodup) (w : World) (hM : AtX w M base v s) (hbs : base ≤ w.heap.size) :
    Calls Try.prog 31 #[.pointer (some ⟨M, 0, none⟩)] w fun e w' => ∃ r, e = .returned r ∧ NowA M base v (handS s) (handO s) w r w' := by
  obtain ⟨c0, c1, c2, c3, cf⟩ := hM.cells
  obtain ⟨a1, k1, a2, k2, a3, k3, hv⟩ := hM.forms
  have HM := hide hM
  unfold handS handO
  by_cases h1 : s.w = 0
  · have n0 : ¬ (s.w ≠ 0) := fun h => h h1
    rw [if_neg n0, if_neg n0]
    clear n0
    by_cases h2 : s.tw = []
    · rw [if_pos h2, if_pos h2]
      have n2 : s.tw.length = 0 := by rw [h2]; rfl
      have HR := hide (handR_any M base v s hl w hM hbs)
      rw [hv] at c2
      rw [h1] at c0
      dsimp only at c2
      rw [n2] at c2
      clear hM hv h1 h2 c1 c3 cf
      go_enter Try.func31, Try.ntmps31
      go_wp2_with fail
      refine HR.out.mono ?_
      rintro e w2 ⟨r, rfl, hN⟩
      have HN := hide hN
      clear hN
      go_wp2
      go_ret
      exact ⟨r, rfl, HN.out⟩
    · rw [if_neg h2, if_neg h2]
      have hp := List.length_pos_iff.2 h2
      have n2 : ((s.tw.length : Int) == 0) = false := by simp; omega
      obtain ⟨y, q, hq⟩ : ∃ y q, s.tw = y :: q := by
        cases h : s.tw with
        | nil => exact absurd h h2
        | cons y q => exact ⟨y, q, rfl⟩
      by_cases h3 : s.rs = []
      · rw [if_pos h3, if_pos h3]
        have n1 : s.rs.length = 0 := by rw [h3]; rfl
        have e1 : gz s.tw 0 = y := by rw [hq]; rfl
        have e2 : s.tw.tail = q := by rw [hq]; rfl
        have e3 : s.tw.take 1 = [y] := by rw [hq]; rfl
        rw [e1, e2, e3]
        have HR := hide (handW_any M base v s hl y q hq hnd w hM)
        rw [hv] at c1 c2
        rw [h1] at c0
        dsimp only at c1 c2
        rw [n1] at c1
        clear hM hv h1 h2 c3 cf e1 e2 e3 hq hp hnd
        generalize s.tw.length = n at *
        go_enter Try.func31, Try.ntmps31
        go_wp2_with fail
        refine HR.out.mono ?_
        rintro e w2 ⟨r, rfl, hN⟩
        have HN := hide hN
        clear hN
        go_wp2
        go_ret
        exact ⟨r, rfl, HN.out⟩
      · rw [if_neg h3, if_neg h3]
        have hp1 := List.length_pos_iff.2 h3
        have n1 : ((s.rs.length : Int) == 0) = false := by simp; omega
        rw [hv] at c1 c2
        rw [h1] at c0
        dsimp only at c1 c2
        clear hM hv h1 h2 h3 c3 cf hq hp hp1 hnd
        generalize s.tw.length = n at *
        generalize s.rs.length = m at *
        go_enter Try.func31, Try.ntmps31
        go_wp2
        go_ret
        exact ⟨_, rfl, NowA.none (NowX.same HM.out (Below.refl _ _))⟩
  · rw [if_pos h1, if_pos h1]
    have n1 : (s.w != 0) = true := by simpa using h1
    clear hM hv h1 c1 c2 c3 cf
    generalize s.w = X at *
    go_enter Try.func31, Try.ntmps31
    go_wp2
    go_ret
    exact ⟨_, rfl, NowA.none (NowX.same HM.out (Below.refl _ _))⟩

end Go.Proofs.Ytggfndokmdpaeaa
