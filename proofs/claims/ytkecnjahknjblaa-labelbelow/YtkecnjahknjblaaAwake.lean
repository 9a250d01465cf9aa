/-
  The fixed fact that each statement asks first comes out true.
-/
import Derived.Test.YtkecnjahknjblaaBits
namespace Go.Proofs.Ytkecnjahknjblaa
open Go.RowKit

theorem bcell {W w1 : World} (hb : Below W.heap.size W w1) : (∀ b o, b < W.heap.size → w1.cell? ⟨b, o, none⟩ = W.cell? ⟨b, o, none⟩) ∧ (∀ b o, b < W.heap.size → w1.frozen? ⟨b, o, none⟩ = W.frozen? ⟨b, o, none⟩) :=
  ⟨fun b o h => hb.cell (p := ⟨b, o, none⟩) h, fun b o h => hb.frozen (p := ⟨b, o, none⟩) h⟩

theorem below_next {W a b : World} (h : Below W.heap.size W a) (k : Below a.heap.size a b) : Below W.heap.size W b := h.trans (k.mono h.size)

theorem below2 (w : World) (o1 o2 : Obj) : Below w.heap.size w ((w.alloc o1).alloc o2) :=
  ((Below.refl _ _).alloc (Nat.le_refl _) _).alloc (by simp) _

theorem in4 : In64 4 := by unfold In64; omega

set_option maxHeartbeats 1000000 in
theorem awake_any (w : World) :
    Calls Try.prog 8 #[] w fun e w' => e = .returned (.bool true) ∧ Below w.heap.size w w' := by
  have f1 : leqB 1 5 2 7 = true := by decide
  have f2 : leqB 1 5 3 4 = false := by decide
  have f3 : bits .or .i64 5 4 = 5 := by decide
  have f4 : bits .and .i64 5 4 = 4 := by decide
  have f8 : max (1 : Int) 3 = 3 := by decide
  have f9 : min (1 : Int) 3 = 1 := by decide
  have f5 : goodB 1 5 = true := by decide
  have f6 : goodB 8 0 = false := by decide
  have f7 : goodB 3 4 = true := by decide
  go_enter Try.func8, Try.ntmps8
  go_wp2_with fail
  refine (leq_any _ _ _ _ _).mono ?_
  rintro e w1 ⟨rfl, hB⟩
  obtain ⟨hc, hf⟩ := bcell hB
  go_wp2_with fail
  refine (leq_any _ _ _ _ _).mono ?_
  rintro e w2 ⟨rfl, hb⟩
  replace hB := below_next hB hb
  clear hb hc hf
  obtain ⟨hc, hf⟩ := bcell hB
  go_wp2_with fail
  refine (join_any _ _ _ _ _).mono ?_
  rintro e w3 ⟨rfl, hb⟩
  replace hB := below_next hB hb
  clear hb hc hf
  obtain ⟨hc, hf⟩ := bcell hB
  go_wp2_with fail
  refine (meet_any _ _ _ _ _).mono ?_
  rintro e w4 ⟨rfl, hb⟩
  replace hB := below_next hB hb
  clear hb hc hf
  obtain ⟨hc, hf⟩ := bcell hB
  go_wp2_with fail
  refine (good_any _ _ _).mono ?_
  rintro e w5 ⟨rfl, hb⟩
  replace hB := below_next hB hb
  clear hb hc hf
  obtain ⟨hc, hf⟩ := bcell hB
  go_wp2_with fail
  refine (good_any _ _ _).mono ?_
  rintro e w6 ⟨rfl, hb⟩
  replace hB := below_next hB hb
  clear hb hc hf
  obtain ⟨hc, hf⟩ := bcell hB
  go_wp2_with fail
  refine (refGood_any _ _ _ in4).mono ?_
  rintro e w7 ⟨rfl, hb⟩
  replace hB := below_next hB hb
  clear hb hc hf
  go_wp2
  go_ret
  exact ⟨rfl, (below2 _ _ _).trans (hB.mono (by simp; omega))⟩

end Go.Proofs.Ytkecnjahknjblaa
