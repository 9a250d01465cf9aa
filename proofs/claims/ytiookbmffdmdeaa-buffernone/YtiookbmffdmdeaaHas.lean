/-
  What buffer's has comes to: slices.ContainsFunc at a function literal that captures a number.
-/
import Derived.Test.YtiookbmffdmdeaaBase
namespace Go.Proofs.Ytiookbmffdmdeaa
open Go.RowKit

set_option maxHeartbeats 400000 in
theorem lit_any (x : Wk) (t : Int) (Tk : Nat) (b : Bool) (hb : (x.t == t) = b) (w : World) (hT : w.cell? ⟨Tk, 0, none⟩ = some (.int .i64 t)) (hl : Tk < w.heap.size) :
    Calls Try.prog 18 #[.agg #[.int .i64 x.t, .int .i64 x.e], .pointer (some ⟨Tk, 0, none⟩)] w fun e w' => e = .returned (.bool b) ∧ Below w.heap.size w w' := by
  obtain ⟨x, y⟩ := x
  simp only at hb ⊢
  go_enter Try.func18, Try.ntmps18
  go_wp2
  go_ret
  exact ⟨rfl, below1 _ _⟩

set_option maxHeartbeats 1000000 in
theorem index_any (B n : Nat) (l : List Wk) (t : Int) (Tk : Nat) (hO : l.length ≤ 8) (w : World) (hA : AtB w B n l) (hT : w.cell? ⟨Tk, 0, none⟩ = some (.int .i64 t)) (hl : Tk < w.heap.size) :
    Calls Try.prog 19 #[.slice (some ⟨B, 0, none⟩) l.length 8, .func (.func 18) #[] #[.pointer (some ⟨Tk, 0, none⟩)]] w fun e w' => ∃ r : Int, e = .returned (.int .i64 r) ∧ decide (0 ≤ r) = hasB l t ∧ Below w.heap.size w w' := by
  have HA := hide hA
  clear hA
  obtain ⟨m, hm⟩ : ∃ m, l.length = m := ⟨_, rfl⟩
  have HM := hide hm
  rw [hm] at hO ⊢
  clear hm
  go_enter Try.func19, Try.ntmps19
  go_wp2
  go_loopw [8] (fun i wr => ∃ k : Nat, k ≤ m ∧ i = .int .i64 k ∧ Below w.heap.size w wr ∧ Hid (∀ i, i < k → (wk l i).t ≠ t)) (fun i _ => m - (intOf i).toNat)
  case atStart => exact ⟨0, Nat.zero_le _, rfl, Below.refl _ _, fun i hi => absurd hi (by omega)⟩
  case round =>
    obtain ⟨k, hk, rfl, hB, HN⟩ := hrel
    have hBl := HA.out.lt
    have hTr : wr.cell? ⟨Tk, 0, none⟩ = some (.int .i64 t) := by rw [(bcell hB).1 _ _ hl]; exact hT
    have hlr : Tk < wr.heap.size := Nat.lt_of_lt_of_le hl hB.size
    by_cases hlt : k < m
    · have HA2 := HA.out.below hB
      obtain ⟨p0, p1⟩ := HA2.cells (k := k) (by omega)
      clear HA2
      have d1 : (k : Int) < (m : Int) := by omega
      have d0 : (0 : Int) ≤ (k : Int) := by omega
      cases hb : ((wk l k).t == t)
      · have hc := lit_any (wk l k) t Tk false hb wr hTr hlr
        have HN2 : Hid (∀ i, i < k + 1 → (wk l i).t ≠ t) := by
          intro i hi
          by_cases e : i = k
          · subst e; simpa using hb
          · exact HN.out i (by omega)
        clear hb
        generalize (wk l k).t = X at *
        generalize (wk l k).e = Y at *
        go_wp2_with (go_at_call 18; refine hc.mono ?_; rintro e w2 ⟨rfl, hb2⟩)
        have hB2 := below_next hB hb2
        go_roundw
        case rel => exact ⟨k + 1, by omega, by go_num, hB2, HN2⟩
        case measure => simp [intOf]; omega
      · have hc := lit_any (wk l k) t Tk true hb wr hTr hlr
        have HH : Hid (hasB l t = true) := hasB_true (i := k) (by rw [HM.out]; exact hlt) (by simpa using hb)
        clear hb
        generalize (wk l k).t = X at *
        generalize (wk l k).e = Y at *
        go_wp2_with (go_at_call 18; refine hc.mono ?_; rintro e w2 ⟨rfl, hb2⟩)
        have hB2 := below_next hB hb2
        go_ret
        exact ⟨k, rfl, by rw [HH.out]; simp, hB2⟩
    · have HH : Hid (hasB l t = false) := hasB_false.2 (fun i hi => HN.out i (by rw [HM.out] at hi; omega))
      clear hTr
      go_wp2
      go_ret
      exact ⟨-1, rfl, by rw [HH.out]; rfl, hB⟩

set_option maxHeartbeats 400000 in
theorem contains_any (B n : Nat) (l : List Wk) (t : Int) (Tk : Nat) (hO : l.length ≤ 8) (w : World) (hA : AtB w B n l) (hT : w.cell? ⟨Tk, 0, none⟩ = some (.int .i64 t)) (hl : Tk < w.heap.size) :
    Calls Try.prog 17 #[.slice (some ⟨B, 0, none⟩) l.length 8, .func (.func 18) #[] #[.pointer (some ⟨Tk, 0, none⟩)]] w fun e w' => e = .returned (.bool (hasB l t)) ∧ Below w.heap.size w w' := by
  have HI := hide (index_any B n l t Tk hO w hA hT hl)
  clear hA hT
  generalize hasB l t = h at *
  generalize l.length = m at *
  go_enter Try.func17, Try.ntmps17
  go_wp2_with fail
  refine HI.out.mono ?_
  rintro e w2 ⟨r, rfl, hr, hb⟩
  cases h
  · go_wp2
    go_ret
    exact ⟨rfl, hb⟩
  · go_wp2
    go_ret
    exact ⟨rfl, hb⟩

theorem undrew {W a : World} (h : Below W.drew.heap.size W.drew a) : Below W.heap.size W a := ⟨h.os, h.tape, h.output, h.size, h.block⟩

set_option maxHeartbeats 1000000 in
theorem has_any (B n : Nat) (l : List Wk) (t : Int) (hO : l.length ≤ 8) (w : World) (hA : AtB w B n l) :
    Calls Try.prog 16 #[.pointer (some ⟨B, 0, none⟩), .int .i64 t] w fun e w' => e = .returned (.bool (hasB l t)) ∧ Below w.heap.size w w' := by
  have hbx := below1 w (.cells #[.int .i64 t] 3)
  have hC := contains_any B n l t w.heap.size hO (w.alloc (.cells #[.int .i64 t] 3)).drew ((hA.below hbx).same rfl) (Lib.cell_of_heap (heap_alloc_new _ _) 0) (by simp)
  obtain ⟨c0, c1⟩ := hA.tops
  have d0 : (0 : Int) ≤ (l.length : Int) := by omega
  have d8 : (l.length : Int) ≤ 8 := by omega
  have HC := hide hC
  have HB := hide hbx
  have hBl := hA.lt
  have HS := hide ((bcell hbx).1 B 16 hBl)
  clear hC hA hbx
  generalize hasB l t = h at *
  generalize l.length = m at *
  go_enter Try.func16, Try.ntmps16
  go_wp2_with fail
  have c2 : (w.alloc (.cells #[.int .i64 t] 3)).cell? ⟨B, 16, none⟩ = some (.int .i64 (m : Int)) := HS.out.trans c0
  generalize hW : w.alloc (.cells #[.int .i64 t] 3) = W at *
  have hWl : B < W.heap.size := by rw [← hW]; simp; omega
  have HW := hide hW
  clear hW
  go_region_held3 (fun w' => w'.cell? ⟨B, 16, none⟩ = some (.int .i64 (m : Int))) (first | assumption | go_keep) (first | (go_at_call 17; refine HC.out.mono ?_; rintro e w3 ⟨rfl, hb3⟩; have hc3 := ((bcell hb3).1 B 16 hWl).trans c2))
  go_wp2
  go_ret
  exact ⟨rfl, below_next HB.out (undrew hb3)⟩
end Go.Proofs.Ytiookbmffdmdeaa
