/-
  How timers lie in memory: one block.
-/
import Derived.Test.YtnciefdhgokffaaMath
import Derived.WalkSpells
import Derived.WalkLawsBesides
import Derived.Lib.BufferMore
import Derived.BigQuiet
import Derived.Deep.QuietTactic
namespace Go.Proofs.Ytnciefdhgokffaa
open Go.RowKit

theorem wrapB {n : Int} (h : -9223372036854775808 ≤ n ∧ n ≤ 9223372036854775807) : IntKind.i64.wrap n = n := by rw [IntKind.wrap_i64]; omega

structure AtW (w : World) (B : Nat) (σ : Ws) : Prop where
  box : ∃ cs, w.heap[B]? = some (.cells cs 55 (0, 0)) ∧ cs.size = 34 ∧ cs[32]? = some (.int .i64 (σ.n : Int)) ∧ cs[33]? = some (.int .i64 (σ.s : Int)) ∧ ∀ i, i < 16 → cs[i * 2]? = some (.int .i64 ((σ.f i).due : Int)) ∧ cs[i * 2 + 1]? = some (.int .i64 ((σ.f i).set : Int))
theorem AtW.lt {w : World} {B : Nat} {σ : Ws} (h : AtW w B σ) : B < w.heap.size := by
  obtain ⟨cs, h1, _⟩ := h.box
  exact (Array.getElem?_eq_some_iff.1 h1).1
theorem AtW.tops {w : World} {B : Nat} {σ : Ws} (h : AtW w B σ) : w.cell? ⟨B, 32, none⟩ = some (.int .i64 (σ.n : Int)) ∧ w.cell? ⟨B, 33, none⟩ = some (.int .i64 (σ.s : Int)) := by
  obtain ⟨cs, h1, _, h2, h3, _⟩ := h.box
  exact ⟨(Lib.cell_of_heap h1 _).trans h2, (Lib.cell_of_heap h1 _).trans h3⟩
theorem AtW.cells {w : World} {B : Nat} {σ : Ws} (h : AtW w B σ) {k : Nat} (hk : k < 16) : w.cell? ⟨B, k * 2, none⟩ = some (.int .i64 ((σ.f k).due : Int)) ∧ w.cell? ⟨B, k * 2 + 1, none⟩ = some (.int .i64 ((σ.f k).set : Int)) := by
  obtain ⟨cs, h1, _, _, _, h2⟩ := h.box
  exact ⟨(Lib.cell_of_heap h1 _).trans (h2 k hk).1, (Lib.cell_of_heap h1 _).trans (h2 k hk).2⟩
theorem AtW.frozen {w : World} {B : Nat} {σ : Ws} (h : AtW w B σ) (j : Nat) : w.frozen? ⟨B, j, none⟩ = false := by
  obtain ⟨cs, h1, _⟩ := h.box
  exact Lib.frozen_of_heap h1 j
theorem AtW.same {w w' : World} {B : Nat} {σ : Ws} (h : AtW w B σ) (k : w'.heap[B]? = w.heap[B]?) : AtW w' B σ := by
  obtain ⟨cs, h1, h2⟩ := h.box
  exact ⟨cs, k.trans h1, h2⟩
theorem AtW.below {w w' : World} {B : Nat} {σ : Ws} (h : AtW w B σ) (k : Below w.heap.size w w') : AtW w' B σ := h.same (k.block _ h.lt)
theorem AtW.to {w : World} {B : Nat} {σ τ : Ws} (h : AtW w B σ) (hn : τ.n = σ.n) (hs : τ.s = σ.s) (hf : ∀ i, i < 16 → τ.f i = σ.f i) : AtW w B τ := by
  obtain ⟨cs, h1, h2, h3, h4, h5⟩ := h.box
  exact ⟨cs, h1, h2, by rw [hn]; exact h3, by rw [hs]; exact h4, fun i hi => by rw [hf i hi]; exact h5 i hi⟩
theorem AtW.count {w : World} {B : Nat} {σ : Ws} (h : AtW w B σ) (s : Nat) : AtW (w.setCell ⟨B, 33, none⟩ (.int .i64 (s : Int))) B ⟨σ.n, s, σ.f⟩ := by
  obtain ⟨cs, h1, h2, h3, h4, h5⟩ := h.box
  refine ⟨_, Lib.heap_setCell_same h1 _, by simpa using h2, ?_, ?_, fun i hi => ?_⟩
  · rw [Array.getElem?_setIfInBounds, if_neg (by omega)]; exact h3
  · rw [Array.getElem?_setIfInBounds, if_pos rfl, if_pos (by omega)]
  · rw [Array.getElem?_setIfInBounds, if_neg (by omega), Array.getElem?_setIfInBounds, if_neg (by omega)]; exact h5 i hi
theorem AtW.put {w : World} {B : Nat} {σ : Ws} (h : AtW w B σ) {k : Nat} (hk : k < 16) (p : Tm) :
    AtW ((w.setCell ⟨B, k * 2, none⟩ (.int .i64 (p.due : Int))).setCell ⟨B, k * 2 + 1, none⟩ (.int .i64 (p.set : Int))) B ⟨σ.n, σ.s, upd σ.f k p⟩ := by
  obtain ⟨cs, h1, h2, h3, h4, h5⟩ := h.box
  refine ⟨_, Lib.heap_setCell_same (Lib.heap_setCell_same h1 _) _, by simpa using h2, ?_, ?_, fun i hi => ?_⟩
  · rw [Array.getElem?_setIfInBounds, if_neg (by omega), Array.getElem?_setIfInBounds, if_neg (by omega)]; exact h3
  · rw [Array.getElem?_setIfInBounds, if_neg (by omega), Array.getElem?_setIfInBounds, if_neg (by omega)]; exact h4
  · obtain ⟨a, b⟩ := h5 i hi
    by_cases e : i = k
    · subst e
      simp only [upd_same]
      refine ⟨?_, ?_⟩
      · rw [Array.getElem?_setIfInBounds, if_neg (by omega), Array.getElem?_setIfInBounds, if_pos rfl, if_pos (by omega)]
      · rw [Array.getElem?_setIfInBounds, if_pos rfl, if_pos (by simp; omega)]
    · simp only [upd_other _ _ e]
      refine ⟨?_, ?_⟩
      · rw [Array.getElem?_setIfInBounds, if_neg (by omega), Array.getElem?_setIfInBounds, if_neg (by omega)]; exact a
      · rw [Array.getElem?_setIfInBounds, if_neg (by omega), Array.getElem?_setIfInBounds, if_neg (by omega)]; exact b

/-- All blocks but one are as they were. -/
structure Turn (B : Nat) (a b : World) : Prop where
  os : b.os = a.os
  tape : b.tape = a.tape
  output : b.output = a.output
  size : a.heap.size ≤ b.heap.size
  block : ∀ k, k < a.heap.size → k ≠ B → b.heap[k]? = a.heap[k]?
theorem Turn.refl (B : Nat) (a : World) : Turn B a a := ⟨rfl, rfl, rfl, Nat.le_refl _, fun _ _ _ => rfl⟩
theorem Turn.trans {B : Nat} {a b c : World} (h : Turn B a b) (k : Turn B b c) : Turn B a c :=
  ⟨k.os.trans h.os, k.tape.trans h.tape, k.output.trans h.output, Nat.le_trans h.size k.size, fun i hi hB => (k.block i (Nat.lt_of_lt_of_le hi h.size) hB).trans (h.block i hi hB)⟩
theorem Turn.of_below {B : Nat} {a b : World} (h : Below a.heap.size a b) : Turn B a b := ⟨h.os, h.tape, h.output, h.size, fun k hk _ => h.block k hk⟩
theorem Turn.set {B : Nat} {a b : World} (h : Turn B a b) (i : Nat) (v : Value) : Turn B a (b.setCell ⟨B, i, none⟩ v) :=
  ⟨h.os, h.tape, h.output, by simpa using h.size, fun k hk h1 => (Below.heap_setCell b ⟨B, i, none⟩ v k (by simpa using h1)).trans (h.block k hk h1)⟩
theorem Turn.drew {B : Nat} {a b : World} (h : Turn B a b) : Turn B a b.drew := ⟨h.os, h.tape, h.output, h.size, h.block⟩
theorem Turn.drewN {B : Nat} {a b : World} (h : Turn B a b) (n : Nat) : Turn B a (b.drewN n) := ⟨h.os, h.tape, h.output, h.size, h.block⟩
theorem Turn.below {B n : Nat} {a b : World} (h : Turn B a b) (hn : n ≤ a.heap.size) (h1 : n ≤ B) : Below n a b :=
  ⟨h.os, h.tape, h.output, h.size, fun k hk => h.block k (by omega) (by omega)⟩
theorem below_drewN (a : World) (n : Nat) : Below a.heap.size a (a.drewN n) := ⟨rfl, rfl, rfl, Nat.le_refl _, fun _ _ => rfl⟩
theorem below_next {W a b : World} (h : Below W.heap.size W a) (k : Below a.heap.size a b) : Below W.heap.size W b := h.trans (k.mono h.size)
theorem bcell {W w1 : World} (hb : Below W.heap.size W w1) : (∀ b o, b < W.heap.size → w1.cell? ⟨b, o, none⟩ = W.cell? ⟨b, o, none⟩) ∧ (∀ b o, b < W.heap.size → w1.frozen? ⟨b, o, none⟩ = W.frozen? ⟨b, o, none⟩) :=
  ⟨fun b o h => hb.cell (p := ⟨b, o, none⟩) h, fun b o h => hb.frozen (p := ⟨b, o, none⟩) h⟩
theorem turn_next {W a b : World} {B : Nat} (h : Below W.heap.size W a) (k : Turn B a b) (h1 : W.heap.size ≤ B) : Below W.heap.size W b := h.trans (k.below h.size h1)
theorem hide {p : Prop} (h : p) : Hid p := h

/-- Timers that are so now, and nothing else has changed. -/
def Now (B : Nat) (σ : Ws) (w w' : World) : Prop := AtW w' B σ ∧ Turn B w w'

end Go.Proofs.Ytnciefdhgokffaa
