/-
  What package tick's Cycle comes to: the ticks of all slots that count.
-/
import Derived.Test.YtkpnkpkokjcdoaaIter
namespace Go.Proofs.Ytkpnkpkokjcdoaa
open Go.RowKit Go.Shelf
attribute [local go_sem] Oper.semAt_some

/-- The ticks of what has come. -/
def sumOf {ls : List (Int × Int)} (p : List (Out ls)) : Nat := (p.map fun x => (ln ls x.1.1).toNat).sum
theorem sumOf_snoc {ls : List (Int × Int)} (p : List (Out ls)) (x : Out ls) : sumOf (p ++ [x]) = sumOf p + (ln ls x.1.1).toNat := by simp [sumOf]
theorem sumOf_le {ls : List (Int × Int)} (p : List (Out ls)) : sumOf p ≤ 16 * p.length := by
  induction p with
  | nil => simp [sumOf]
  | cons x r ih =>
    have := cn_iff.1 x.2.2.1
    simp only [sumOf, List.map_cons, List.sum_cons, List.length_cons] at *
    omega
theorem sumOf_pre (ls : List (Int × Int)) : ∀ k, k ≤ ls.length → sumOf (pre ls k) = off ls k
  | 0, _ => rfl
  | k + 1, h => by
    have ih := sumOf_pre ls k (by omega)
    cases hc : cn ls k
    · rw [pre_no hc, off_no hc, ih]
    · rw [pre_yes (by omega) hc, off_yes hc, sumOf_snoc, ih]

set_option maxRecDepth 100000 in
set_option maxHeartbeats 2000000 in
theorem cycle_any (ad : Option Addr) (len cap : Nat) (ls : List (Int × Int)) (hm : len ≤ 16 ∧ ls.length = len ∨ 16 < len ∧ ls.length = 16) (hcap : len ≤ cap) (hmax : cap ≤ maxLen) (w : World) (hrow : SlotRow w.heap.size w ad ls) :
    Calls Try.prog 11 #[.slice ad len cap] w fun e W' => e = .returned (.int .i64 (off ls ls.length : Int)) ∧ Below w.heap.size w W' := by
  refine (callsIn_wide (n := 3)).1 ?_
  refine callsIn_of_wp_marks Try.func11 rfl trivial ?_ rfl
  simp only [Try.ntmps11, List.size_toArray, List.length_cons, List.length_nil, Nat.reduceAdd, Nat.reduceSub, Array.replicate_succ, Array.replicate_zero, List.push_toArray, List.append_toArray, List.nil_append, List.cons_append]
  gi_wp2_with (refine ⟨trivial, ?_⟩; gi_at_call 19; refine (counting_in Fence.wide _ trivial rfl _ _ _ _).mono ?_; rintro e w' ⟨rfl, rfl⟩)
  have bL := Boxed.new w 22 (.slice ad len cap)
  have bC := Boxed.new (w.alloc (.cells #[.slice ad len cap] 22)) 3 (.int .i64 0)
  have bN := Boxed.new ((w.alloc (.cells #[.slice ad len cap] 22)).alloc (.cells #[.int .i64 0] 3)) 22 (.slice ad len cap)
  simp only [World.size_alloc] at bC bN
  have hB0 : Below w.heap.size w (((w.alloc (.cells #[.slice ad len cap] 22)).alloc (.cells #[.int .i64 0] 3)).alloc (.cells #[.slice ad len cap] 22)) := (((Below.refl _ w).alloc (Nat.le_refl _) _).alloc (by simp) _).alloc (by simp; omega) _
  refine wpIn_rangeFunc_ownG rfl (by decide) (gf := 21) (lb := #[.pointer (some ⟨w.heap.size + 1 + 1, 0, none⟩)]) rfl trivial (enters_of Try.func21 (by kernel_rfl) rfl)
    (iter_stops Fence.wide 2 trivial rfl (by decide) (w.heap.size + 1 + 1) (w.heap.size + 1) (w.heap.size + 1 + 1) ad len cap ls hm hcap hmax _ (by simp) (by simp; try omega) (by simp) bN.cell ((hrow.below hB0).mono (by omega)))
    (fun h k => h.trans k) (keepC_b) (Below.refl _ _) (fun _ => rfl)
    (fun pr W => ((W.cell? ⟨w.heap.size + 1, 0, none⟩ = some (.int .i64 (sumOf pr : Int)) ∧ W.frozen? ⟨w.heap.size + 1, 0, none⟩ = false) ∧ W.cell? ⟨w.heap.size, 0, none⟩ = some (.slice ad len cap)) ∧ Below w.heap.size w W)
    (fun _ _ _ => False)
    (OwnFrom.and (Own.from (fun s A B row hs hg hr => ⟨⟨cell_kept hs.1.1 hg hr, (frozen_kept hs.1.1 hg hr).trans hs.1.2⟩, cell_kept hs.2 hg hr⟩) _) (ownFrom_below (Nat.le_refl _) (by simp; omega)))
    (fun _ _ _ _ _ hs _ _ => hs)
    ⟨⟨⟨(bC.alloc _).cell, (bC.alloc _).frozen⟩, ((bL.alloc _).alloc _).cell⟩, hB0⟩
    (fun x => { tmps := #[.slice ad len cap, .pointer (some ⟨w.heap.size, 0, none⟩), .int .i64 0, .pointer (some ⟨w.heap.size + 1, 0, none⟩), .int .i64 (x.1.1 : Int), .slice ad len cap, .func (.func 21) #[] #[.pointer (some ⟨w.heap.size + 1 + 1, 0, none⟩)], .int .i64 (x.1.1 : Int), .int .i64 (x.1.2 : Int), undef, undef, undef, undef, undef, undef, undef, undef], defers := [] }) ?assign ?body ?done ?stop
  case assign =>
    intro l x W K hK
    unfold Out.enc
    gi_wp2
    exact hK
  case body =>
    rintro l pr ⟨⟨i, j⟩, hi, hcn, hj⟩ W ⟨⟨⟨hc, hf⟩, hl⟩, hB⟩ hN
    obtain ⟨l1, l2⟩ := cn_iff.1 hcn
    have hs := sumOf_le pr
    dsimp only at hi hcn hj l1 l2 ⊢
    obtain ⟨b, o, rfl, hb, hcs⟩ : ∃ b off, ad = some ⟨b, off, none⟩ ∧ b < w.heap.size ∧ ∀ i, i < ls.length → W.cell? ⟨b, off + i * 2, none⟩ = some (.int .i64 (dm ls i)) ∧ W.cell? ⟨b, off + i * 2 + 1, none⟩ = some (.int .i64 (ln ls i)) := by
      rcases hrow.below hB with h | h
      · rw [h] at hi; simp at hi
      · exact h
    obtain ⟨_, c1⟩ := hcs i hi
    clear hcs
    have hil : (i : Int) < (len : Int) := by omega
    have hi0 : (0 : Int) ≤ (i : Int) := by omega
    have hfol : Try.prog.follows Departure.mixedOrders = true := by kernel_rfl
    gi_wp2
    gi_region_with_o (fail)
    all_goals gi_wp2
    all_goals
      refine ⟨((KeepsOthers.setCell _ _ _).trans (KeepsOthers.drew _)).from _, (KeepC.setCell W _ _ (Nat.le_refl _) (Nat.lt_succ_self _)).drew, ⟨⟨?_, ?_⟩, ?_⟩, (hB.setCell (p := ⟨w.heap.size + 1, 0, none⟩) (by simp) _).trans (Below.refl _ _).drew⟩
      · rw [cell_drew_own, World.cell?_setCell_same' _ _ _ (by rw [hc]; rfl), sumOf_snoc]
        dsimp only
        rw [show IntKind.i64.wrap ((sumOf pr : Int) + ln ls i) = ((sumOf pr + (ln ls i).toNat : Nat) : Int) by rw [wrapB (by omega)]; omega]
      · rw [frozen_drew_own, World.frozen?_setCell]; exact hf
      · rw [cell_drew_own, World.cell?_setCell_other _ _ _ _ (by simp)]; exact hl
  case done =>
    rintro D ys W hD rfl ⟨⟨⟨hc, _⟩, _⟩, hB⟩ hK
    gi_wp2
    refine ⟨by simp, .inl ⟨_, _, rfl, run_takeDeferred hK, ?_⟩⟩
    exact ⟨_, results_tmp rfl _ _ _, by rw [sumOf_pre ls _ (Nat.le_refl _)]; rfl, hB.trans (belowK_b (w := w) (Nat.le_refl _) W D _ _ (by simp at hD; omega) hK rfl rfl)⟩
  case stop =>
    rintro D c pre W _ _ h _
    exact h.elim

end Go.Proofs.Ytkpnkpkokjcdoaa
