/-
  What sema's find comes to: slices.IndexFunc at a function literal that captures a number.
-/
import Derived.Test.YtgldhlcdnijecaaBase
namespace Go.Proofs.Ytgldhlcdnijecaa
open Go.RowKit

set_option maxHeartbeats 400000 in
theorem lit_any (x y : Int) (t : Int) (Tk : Nat) (b : Bool) (hb : (x == t) = b) (w : World) (hT : w.cell? ⟨Tk, 0, none⟩ = some (.int .i64 t)) (hl : Tk < w.heap.size) :
    Calls Try.prog 31 #[.agg #[.int .i64 x, .int .i64 y], .pointer (some ⟨Tk, 0, none⟩)] w fun e w' => e = .returned (.bool b) ∧ Below w.heap.size w w' := by
  go_enter Try.func31, Try.ntmps31
  go_wp2
  go_ret
  exact ⟨rfl, below1 _ _⟩

theorem idx_none (l : List Wt) (t : Int) (k : Nat) (hk : l.length ≤ k) (h : ∀ j, j < k → (wt l j).t ≠ t) : idxZ (ts l) t = -1 := by
  refine idx_out (inZ_false.2 fun hm => ?_)
  obtain ⟨j, h1, h2, _⟩ := in_at (inZ_true.2 hm)
  rw [ts_len] at h1
  exact h j (by omega) (by rw [← gz_ts l h1]; exact h2)
theorem idx_hit {l : List Wt} {t : Int} {k : Nat} (h1 : k < l.length) (h2 : (wt l k).t = t) (h3 : ∀ m, m < k → (wt l m).t ≠ t) : idxZ (ts l) t = (k : Int) :=
  idx_at (by rw [ts_len]; exact h1) (by rw [gz_ts l h1]; exact h2) (fun m hm => by rw [gz_ts l (by omega)]; exact h3 m hm)

set_option maxHeartbeats 1000000 in
theorem index_any (base : Nat) (v : Value) (l : List Wt) (t : Int) (Tk : Nat) (hl : l.length ≤ 1000) (w : World) (hA : w.ownsRow base 56 2 v l.length (cW l)) (hT : w.cell? ⟨Tk, 0, none⟩ = some (.int .i64 t)) (hTl : Tk < w.heap.size) :
    Calls Try.prog 30 #[v, .func (.func 31) #[] #[.pointer (some ⟨Tk, 0, none⟩)]] w fun e w' => e = .returned (.int .i64 (idxZ (ts l) t)) ∧ Below w.heap.size w w' := by
  obtain ⟨av, ac, rfl⟩ := owns_slice hA
  have HA := hide hA
  clear hA
  obtain ⟨m, hm⟩ : ∃ m, l.length = m := ⟨_, rfl⟩
  have HM := hide hm
  rw [hm] at hl ⊢
  clear hm
  go_enter Try.func30, Try.ntmps30
  go_wp2
  go_loopw [8] (fun i wr => ∃ k : Nat, k ≤ m ∧ i = .int .i64 k ∧ Below w.heap.size w wr ∧ Hid (∀ i, i < k → (wt l i).t ≠ t)) (fun i _ => m - (intOf i).toNat)
  case atStart => exact ⟨0, Nat.zero_le _, rfl, Below.refl _ _, fun i hi => absurd hi (by omega)⟩
  case round =>
    obtain ⟨k, hk, rfl, hB, HN⟩ := hrel
    have hTr : wr.cell? ⟨Tk, 0, none⟩ = some (.int .i64 t) := by rw [(bcell hB).1 _ _ hTl]; exact hT
    have hlr : Tk < wr.heap.size := Nat.lt_of_lt_of_le hTl hB.size
    by_cases hlt : k < m
    · obtain ⟨g, c, hv, _, hgl, hcell, _⟩ := row_openW (owns_below HA.out hB) (by rw [HM.out]; omega)
      rw [HM.out] at hv hcell
      simp only [Value.slice.injEq, true_and] at hv
      obtain ⟨rfl, rfl⟩ := hv
      obtain ⟨p0, p1⟩ := hcell k hlt
      have d1 : (k : Int) < (m : Int) := by omega
      have d0 : (0 : Int) ≤ (k : Int) := by omega
      clear hcell
      cases hb : ((wt l k).t == t)
      · have hc := lit_any (wt l k).t (wt l k).u t Tk false hb wr hTr hlr
        have HN2 : Hid (∀ i, i < k + 1 → (wt l i).t ≠ t) := by
          intro i hi
          by_cases e : i = k
          · subst e; simpa using hb
          · exact HN.out i (by omega)
        clear hb
        generalize (wt l k).t = X at *
        generalize (wt l k).u = Y at *
        go_wp2_with (go_at_call 31; refine hc.mono ?_; rintro e w2 ⟨rfl, hb2⟩)
        have hB2 := below_next hB hb2
        go_roundw
        case rel => exact ⟨k + 1, by omega, by go_num, hB2, HN2⟩
        case measure => simp [intOf]; omega
      · have hc := lit_any (wt l k).t (wt l k).u t Tk true hb wr hTr hlr
        have HX := hide (idx_hit (l := l) (t := t) (by rw [HM.out]; exact hlt) (by simpa using hb) HN.out)
        clear hb
        generalize (wt l k).t = X at *
        generalize (wt l k).u = Y at *
        go_wp2_with (go_at_call 31; refine hc.mono ?_; rintro e w2 ⟨rfl, hb2⟩)
        have hB2 := below_next hB hb2
        go_ret
        exact ⟨ret_int HX.out.symm, hB2⟩
    · have HX := hide (idx_none l t k (by rw [HM.out]; omega) HN.out)
      clear hTr
      go_wp2
      go_ret
      exact ⟨ret_int HX.out.symm, hB⟩

set_option maxHeartbeats 1000000 in
theorem find_any (M base : Nat) (v : Value) (s : Sm) (hl : s.q.length ≤ 1000) (t : Int) (w : World) (hM : AtS w M base v s) :
    Calls Try.prog 23 #[.pointer (some ⟨M, 0, none⟩), .int .i64 t] w fun e w' => e = .returned (.int .i64 (idxZ (ts s.q) t)) ∧ Below w.heap.size w w' := by
  have hbx := below1 w (.cells #[.int .i64 t] 3)
  have hA2 := hM.below hbx
  have HC := hide (index_any base v s.q t w.heap.size hl (w.alloc (.cells #[.int .i64 t] 3)) hA2.row (Lib.cell_of_heap (heap_alloc_new _ _) 0) (by simp))
  obtain ⟨_, _, c2, _⟩ := hA2.cells
  have HB := hide hbx
  have hMl := hM.lt
  clear hM hA2 hbx
  generalize idxZ (ts s.q) t = h at *
  go_enter Try.func23, Try.ntmps23
  go_wp2_with fail
  refine HC.out.mono ?_
  rintro e w3 ⟨rfl, hb3⟩
  go_wp2
  go_ret
  exact ⟨rfl, below_next HB.out hb3⟩

end Go.Proofs.Ytgldhlcdnijecaa
