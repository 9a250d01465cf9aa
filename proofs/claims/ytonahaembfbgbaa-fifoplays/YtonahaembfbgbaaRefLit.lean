/-
  New rows beside a new cell: for the document's Push.
-/
import Derived.Test.YtonahaembfbgbaaRefRm
namespace Go.Proofs.Ytonahaembfbgbaa
open Go.RowKit
attribute [local go_sem ↓] Go.wp_at_zero Go.wp_at_succ

theorem news_one {W : World} {b : Nat} {v : Value} (h : W.cell? ⟨b, 0, none⟩ = some v) : ∀ j u, [v][j]? = some u → W.cell? ((⟨b, 0, none⟩ : Addr).add j) = some u := by
  intro j u hj
  match j, hj with
  | 0, hj => simp at hj; subst hj; simpa [Addr.add] using h
theorem ones_int (x : Int) : ∀ u ∈ [Value.int .i64 x], u.oneCell' = true := by
  intro u hu
  simp at hu
  subst hu
  rfl
theorem news_same {W : World} {g : Nat} {l : List Nat} (h : ∀ k, k < l.length → W.cell? ⟨g, k, none⟩ = some (.int .i64 ((gs_ l k : Nat) : Int))) : ∀ j u, (cI l)[j]? = some u → W.cell? ((⟨g, 0, none⟩ : Addr).add j) = some u := by
  have := news_row h l.length (Nat.le_refl _)
  rwa [List.take_length] at this

theorem ne_a (w : World) : some (w.heap.size + 1) ≠ some w.heap.size := by simp
theorem ne_b (w : World) : some w.heap.size ≠ some (w.heap.size + 1) := by simp
theorem cx2 (w : World) (x : Int) : ((w.alloc (.cells #[] 3)).alloc (.cells #[.int .i64 x] 3)).drew.cell? ⟨w.heap.size + 1, 0, none⟩ = some (.int .i64 x) := by simp [go_sem]
theorem cx3 (w : World) (x : Int) : ((w.alloc (.cells #[.int .i64 x] 3)).alloc (.cells #[] 3)).drew.cell? ⟨w.heap.size, 0, none⟩ = some (.int .i64 x) := by simp [go_sem]
theorem cx1 (w : World) (x : Int) : (w.alloc (.cells #[.int .i64 x] 3)).cell? ⟨w.heap.size, 0, none⟩ = some (.int .i64 x) := by simp [go_sem]
theorem below_at {n : Nat} {w W1 w5 : World} {row : Option Nat} (_ : W1.grownBy w5 row) (h : Below n w W1) : Below n w W1 := h
/-- Behind an append onto a new row. -/
theorem below_app {w W1 w5 : World} {b : Nat} (h : Below w.heap.size w W1) (hb : w.heap.size ≤ b) (hg : W1.grownBy w5 (Value.slice (some ⟨b, 0, none⟩) 0 0).ownBlock) : Below w.heap.size w w5 :=
  h.grown hg h.size (fun k hk => by have : b = k := by simpa [Value.ownBlock] using hk
                                    omega)
theorem below_app2 {w W1 W2 w6 : World} {v : Value} {n : Nat} {xs : List Value} (h : Below w.heap.size w W1) (hown : W1.ownsRow w.heap.size 3 1 v n xs) (h2 : Below W1.heap.size W1 W2) (hg : W2.grownBy w6 v.ownBlock) : Below w.heap.size w w6 :=
  (h.trans (h2.mono h.size)).grown hg (Nat.le_trans h.size h2.size) (fun k hk => (hown.lt k hk).1)

theorem pushAt_set (s : Qs) (k y : Nat) : (pushAt s k y).nq = s.nq ∧ (pushAt s k y).ni = s.ni ∧ ∀ j, j < s.nq → (pushAt s k y).l j = if j = k then s.l k ++ [y] else s.l j :=
  ⟨rfl, rfl, fun _ _ => rfl⟩

end Go.Proofs.Ytonahaembfbgbaa
