/-
  What fifo's All comes to: a row of its own with the queue's items.
-/
import Derived.Maps.AppendAt
import Derived.Test.YtonahaembfbgbaaSeq
import Derived.Test.YtonahaembfbgbaaNew
namespace Go.Proofs.Ytonahaembfbgbaa
open Go.RowKit Go.Shelf
attribute [local go_sem] Oper.semAt_some

def cI (l : List Nat) : List Value := l.map fun n : Nat => Value.int .i64 (n : Int)
theorem cI_snoc (l : List Nat) (k : Nat) : cI (l ++ [k]) = cI l ++ [.int .i64 (k : Int)] := by simp [cI]
theorem cI_len (l : List Nat) : (cI l).length = l.length := by simp [cI]

/-- What is answered: a row of its own. -/
def Owned (l : List Nat) (w : World) (e : Ending) (w' : World) : Prop :=
  ∃ v, e = .returned v ∧ w'.ownsRow w.heap.size 3 1 v l.length (cI l) ∧ Below w.heap.size w w'

theorem owns_mono {W : World} {a b e size : Nat} {v : Value} {n : Nat} {xs : List Value} (h : W.ownsRow a e size v n xs) (hab : b ≤ a) : W.ownsRow b e size v n xs := by
  obtain ⟨h1, h2⟩ := h
  refine ⟨h1, ?_⟩
  rcases h2 with h2 | ⟨g, cap, cur, x1, x2, x3⟩
  · exact .inl h2
  · exact .inr ⟨g, cap, cur, x1, Nat.le_trans hab x2, x3⟩

/-- 'all = append(all, ..)' where the row lies behind the blocks that stay. -/
theorem app_keeps {S : Nat → Prop} {W w1 : World} {n₀ m B : Nat} {t e : TypeId} {size : Nat} {v v' : Value} {k j : Nat} {xs ys : List Value} {tmp : Obj}
    (hv : Boxed W B t v) (hte : t ≠ e) (hrow : W.ownsRow n₀ e size v k xs) (hm : m ≤ n₀) (hmW : m ≤ W.heap.size) (hmB : m ≤ B) (hS : ∀ b, S b → b < n₀) (hSB : ¬ S B)
    (hown' : w1.ownsRow n₀ e size v' j ys) (hgrow : (W.alloc tmp).grownBy w1 v.ownBlock) :
    Boxed w1 B t v ∧ Boxed (w1.setCell ⟨B, 0, none⟩ v') B t v' ∧ (w1.setCell ⟨B, 0, none⟩ v').ownsRow n₀ e size v' j ys ∧ KeepsOthers W (w1.setCell ⟨B, 0, none⟩ v') ∧ KeepS S W (w1.setCell ⟨B, 0, none⟩ v') ∧ Below m W (w1.setCell ⟨B, 0, none⟩ v') := by
  have hv1 : Boxed w1 B t v := (hv.alloc tmp).kept hgrow (hv.not_row hte hrow)
  have hrb : ∀ g, v.ownBlock = some g → n₀ ≤ g := fun g eg => by
    rcases hrow.2 with ⟨rfl, _⟩ | ⟨g', cap, cur, rfl, hb, _, _⟩
    · simp [Value.ownBlock] at eg
    · obtain rfl : g' = g := by simpa [Value.ownBlock] using eg
      exact hb
  refine ⟨hv1, hv1.set v', hown'.kept (grownBy_setCell' w1 B v') (.inr (hv1.not_row hte hown').symm), ?_, ?_, ?_⟩
  · refine ((KeepsOthers.alloc W tmp).trans (KeepsOthers.of_grownBy hgrow fun j o ej hj => ?_)).trans (KeepsOthers.setCell _ _ _)
    rcases (hrow.alloc tmp).2 with ⟨rfl, _⟩ | ⟨g, cap, cur, rfl, _, hgb, _⟩
    · simp [Value.ownBlock] at ej
    · obtain rfl : g = j := by simpa [Value.ownBlock] using ej
      rw [hgb] at hj; cases hj; rfl
  · have hz := hgrow.size
    refine ⟨by simp at hz ⊢; omega, fun b o hb ho _ => ?_⟩
    have hlt := (Array.getElem?_eq_some_iff.1 ho).1
    rw [Below.heap_setCell _ _ _ b (fun e' => by have : b = B := e'; subst this; exact hSB hb)]
    rw [hgrow.block b (by simp; omega) (fun e' => by have := hrb b e'.symm; have := hS b hb; omega)]
    exact (Below.heap_alloc W tmp b hlt).trans ho
  · exact (((Below.refl m W).alloc hmW tmp).grown hgrow (by simp; omega) fun j ej => Nat.le_trans hm (hrb j ej)).setCell (p := ⟨B, 0, none⟩) hmB v'

set_option maxRecDepth 100000 in
set_option maxHeartbeats 2000000 in
theorem all_gives (p : Option Addr) (k : Int) (L : List Nat) (hL : L.length ≤ 1000) (w : World) (hg : Gives p k L w) :
    Calls Try.prog 17 #[.pointer p, .int .i64 k] w fun e W' => Owned L w e W' := by
  obtain ⟨i0, hi, hz0, hz1, hz2⟩ := info_parts info3
  refine (callsIn_wide (n := 3)).1 ?_
  refine callsIn_of_wp_marks Try.func17 rfl trivial ?_ rfl
  simp only [Try.ntmps17, List.size_toArray, List.length_cons, List.length_nil, Nat.reduceAdd, Nat.reduceSub, Array.replicate_succ, Array.replicate_zero, List.push_toArray, List.append_toArray, List.nil_append, List.cons_append]
  gi_wp2_with (refine ⟨trivial, ?_⟩; gi_at_call 25; refine (in_in _ _ _ _).mono ?_; rintro e w' ⟨rfl, rfl⟩)
  have bN := ((Boxed.new w 37 (.slice none 0 0)).alloc (.cells #[.pointer p] 23)).alloc (.cells #[.int .i64 k] 3)
  have bQ := (Boxed.new (w.alloc (.cells #[.slice none 0 0] 37)) 23 (.pointer p)).alloc (.cells #[.int .i64 k] 3)
  have bK := Boxed.new ((w.alloc (.cells #[.slice none 0 0] 37)).alloc (.cells #[.pointer p] 23)) 3 (.int .i64 k)
  simp only [World.size_alloc] at bQ bK
  have hB0 := below3 w (.cells #[.slice none 0 0] 37) (.cells #[.pointer p] 23) (.cells #[.int .i64 k] 3)
  have hz0' : w.heap.size + 3 ≤ (((w.alloc (.cells #[.slice none 0 0] 37)).alloc (.cells #[.pointer p] 23)).alloc (.cells #[.int .i64 k] 3)).heap.size := by simp
  refine wpIn_rangeFunc_ownG rfl (by decide) (gf := 28) (lb := #[.pointer (some ⟨w.heap.size + 1, 0, none⟩), .pointer (some ⟨w.heap.size + 1 + 1, 0, none⟩)]) rfl trivial (enters_of Try.func28 (by kernel_rfl) rfl)
    (iter_stops 2 (by decide) (w.heap.size + 1) (w.heap.size + 1 + 1) p k L (Aside w.heap.size) w _ hg (fun b h => .inl h) (.inr rfl) hB0 bQ bK)
    (fun h k => h.trans k) (keepS_b) (Below.refl _ _) (fun _ => rfl)
    (fun pr W => (∃ v, Boxed W w.heap.size 37 v ∧ W.ownsRow (w.heap.size + 3) 3 1 v pr.length (cI pr) ∧ True) ∧ (Below w.heap.size w W ∧ w.heap.size + 3 ≤ W.heap.size))
    (fun _ _ _ => False)
    (OwnFrom.and (Own.from (holdsRow_own (w.heap.size + 3) w.heap.size 37 3 1 (fun pr : List Nat => pr.length) (fun pr => cI pr) (fun _ _ => True)) _) (OwnFrom.and (ownFrom_below (Nat.le_refl _) (by simp; omega)) (fun _ _ _ _ hs hg _ => Nat.le_trans hs hg.size)))
    (fun _ _ _ _ _ hs _ _ => hs)
    ⟨⟨_, bN, World.ownsRow_nil _ _ _ _, trivial⟩, hB0, hz0'⟩
    (fun x => { tmps := #[.pointer p, .int .i64 k, undef, undef, .slice none 0 0, .pointer (some ⟨w.heap.size, 0, none⟩), .int .i64 (x : Int), .pointer p, .int .i64 k, .func (.func 28) #[] #[.pointer (some ⟨w.heap.size + 1, 0, none⟩), .pointer (some ⟨w.heap.size + 1 + 1, 0, none⟩)], .int .i64 (x : Int), undef, undef, undef, undef, undef], defers := [] }) ?assign ?body ?done ?stop
  case assign =>
    intro l x W K hK
    unfold enc
    gi_wp2
    exact hK
  case body =>
    rintro l pr x W ⟨⟨v, hv, hrow, _⟩, hB, hz⟩ hN
    have hc := hv.cell
    have hpl : pr.length < 1000 := by omega
    clear hN
    gi_wp2_with (gi_at_builtin; refine wpListIn_append_own _ rfl _ _ 37 rfl (w.heap.size + 3) 3 i0 (.int .i64 0) 1 8 Try.underlying37 hi hz0 hz1 hz2 rfl (by decide) _ _ _ rfl (hrow.alloc _) ⟨W.heap.size, 0, none⟩ 1 1 [.int .i64 (x : Int)] rfl rfl (cell_one_new _ _ _) (by simp [Value.oneCell']) (by unfold maxLen; omega) (by omega) (by simp; omega) ?_; intro v' w1 hown' hgrow _; obtain ⟨g', cap', rfl⟩ := ownsRow_succ hown'; obtain ⟨hv1, hv2, hr2, hk2, hs2, hb2⟩ := app_keeps (S := Aside w.heap.size) (m := w.heap.size) hv (by decide) hrow (by omega) (by omega) (Nat.le_refl _) (fun b hb => by unfold Aside at hb; omega) (by unfold Aside; omega) hown' hgrow; have hc1 := hv1.cell; have hf1 := hv1.frozen)
    refine ⟨hk2.from _, hs2, ⟨_, hv2, ?_, trivial⟩, hB.trans hb2, Nat.le_trans hz hb2.size⟩
    rw [cI_snoc, List.length_append]
    exact hr2
  case done =>
    rintro D ys W hD rfl ⟨⟨v, hv, hrow, _⟩, hB, hz⟩ hK
    have hc := hv.cell
    gi_wp2
    refine ⟨by simp, .inl ⟨_, _, rfl, run_takeDeferred hK, ?_⟩⟩
    exact ⟨_, results_tmp rfl _ _ _, _, rfl, owns_mono (ownsRow_putObj hrow _ hK rfl) (by omega), hB.trans (belowK_b (w := w) (Nat.le_refl _) W D _ _ (by simp at hD; omega) hK rfl rfl)⟩
  case stop =>
    rintro D c pre W _ _ h _
    exact h.elim

theorem all_any (B P : Nat) (s : Qs) (k : Int) (w : World) (hs : Ok s) (hA : AtQ w B P s) (hL : (allOf s k).length ≤ 1000) :
    Calls Try.prog 17 #[.pointer (some ⟨B, 0, none⟩), .int .i64 k] w fun e W' => Owned (allOf s k) w e W' :=
  all_gives _ k _ hL w (.inl ⟨B, P, s, rfl, hs, hA, rfl⟩)
theorem all_nil (k : Int) (w : World) : Calls Try.prog 17 #[.pointer none, .int .i64 k] w fun e W' => Owned [] w e W' :=
  all_gives none k [] (by simp) w (.inr ⟨rfl, rfl⟩)

end Go.Proofs.Ytonahaembfbgbaa
