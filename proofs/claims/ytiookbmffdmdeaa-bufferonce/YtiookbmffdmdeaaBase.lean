/-
  How wake-ups that are held back lie in memory: one block; and New.
-/
import Derived.Test.YtiookbmffdmdeaaMath
import Derived.WalkSpells
import Derived.WalkLawsBesides
import Derived.Lib.BufferMore
import Derived.BigQuiet
import Derived.Deep.QuietTactic
import Derived.Deep.RegionHeld3
import Derived.Deep.RegionLaw
namespace Go.Proofs.Ytiookbmffdmdeaa
open Go.RowKit

theorem wrapB {n : Int} (h : -9223372036854775808 ≤ n ∧ n ≤ 9223372036854775807) : IntKind.i64.wrap n = n := by rw [IntKind.wrap_i64]; omega
theorem hide {p : Prop} (h : p) : Hid p := h

structure AtB (w : World) (B n : Nat) (l : List Wk) : Prop where
  box : ∃ cs, w.heap[B]? = some (.cells cs 44 (0, 0)) ∧ cs.size = 18 ∧ cs[16]? = some (.int .i64 (l.length : Int)) ∧ cs[17]? = some (.int .i64 (n : Int)) ∧ ∀ i, i < 8 → cs[i * 2]? = some (.int .i64 (wk l i).t) ∧ cs[i * 2 + 1]? = some (.int .i64 (wk l i).e)
theorem AtB.lt {w : World} {B n : Nat} {l : List Wk} (h : AtB w B n l) : B < w.heap.size := by
  obtain ⟨cs, h1, _⟩ := h.box
  exact (Array.getElem?_eq_some_iff.1 h1).1
theorem AtB.tops {w : World} {B n : Nat} {l : List Wk} (h : AtB w B n l) : w.cell? ⟨B, 16, none⟩ = some (.int .i64 (l.length : Int)) ∧ w.cell? ⟨B, 17, none⟩ = some (.int .i64 (n : Int)) := by
  obtain ⟨cs, h1, _, h2, h3, _⟩ := h.box
  exact ⟨(Lib.cell_of_heap h1 _).trans h2, (Lib.cell_of_heap h1 _).trans h3⟩
theorem AtB.cells {w : World} {B n : Nat} {l : List Wk} (h : AtB w B n l) {k : Nat} (hk : k < 8) : w.cell? ⟨B, k * 2, none⟩ = some (.int .i64 (wk l k).t) ∧ w.cell? ⟨B, k * 2 + 1, none⟩ = some (.int .i64 (wk l k).e) := by
  obtain ⟨cs, h1, _, _, _, h2⟩ := h.box
  exact ⟨(Lib.cell_of_heap h1 _).trans (h2 k hk).1, (Lib.cell_of_heap h1 _).trans (h2 k hk).2⟩
theorem AtB.frozen {w : World} {B n : Nat} {l : List Wk} (h : AtB w B n l) (j : Nat) : w.frozen? ⟨B, j, none⟩ = false := by
  obtain ⟨cs, h1, _⟩ := h.box
  exact Lib.frozen_of_heap h1 j
theorem AtB.same {w w' : World} {B n : Nat} {l : List Wk} (h : AtB w B n l) (k : w'.heap[B]? = w.heap[B]?) : AtB w' B n l := by
  obtain ⟨cs, h1, h2⟩ := h.box
  exact ⟨cs, k.trans h1, h2⟩
theorem AtB.below {w w' : World} {B n : Nat} {l : List Wk} (h : AtB w B n l) (k : Below w.heap.size w w') : AtB w' B n l := h.same (k.block _ h.lt)
theorem AtB.put {w : World} {B n : Nat} {l : List Wk} (h : AtB w B n l) (h8 : l.length < 8) (x : Wk) :
    AtB (((w.setCell ⟨B, l.length * 2, none⟩ (.int .i64 x.t)).setCell ⟨B, l.length * 2 + 1, none⟩ (.int .i64 x.e)).setCell ⟨B, 16, none⟩ (.int .i64 ((l.length + 1 : Nat) : Int))) B n (l ++ [x]) := by
  obtain ⟨cs, h1, h2, h3, h4, h5⟩ := h.box
  refine ⟨_, Lib.heap_setCell_same (Lib.heap_setCell_same (Lib.heap_setCell_same h1 _) _) _, by simpa using h2, ?_, ?_, fun i hi => ?_⟩
  · rw [Array.getElem?_setIfInBounds, if_pos rfl, if_pos (by simp; omega)]; simp
  · rw [Array.getElem?_setIfInBounds, if_neg (by omega), Array.getElem?_setIfInBounds, if_neg (by omega), Array.getElem?_setIfInBounds, if_neg (by omega)]; exact h4
  · obtain ⟨a, b⟩ := h5 i hi
    by_cases e : i = l.length
    · subst e
      rw [wk_snoc_eq]
      refine ⟨?_, ?_⟩
      · rw [Array.getElem?_setIfInBounds, if_neg (by omega), Array.getElem?_setIfInBounds, if_neg (by omega), Array.getElem?_setIfInBounds, if_pos rfl, if_pos (by omega)]
      · rw [Array.getElem?_setIfInBounds, if_neg (by omega), Array.getElem?_setIfInBounds, if_pos rfl, if_pos (by simp; omega)]
    · rw [wk_snoc_ne e]
      refine ⟨?_, ?_⟩
      · rw [Array.getElem?_setIfInBounds, if_neg (by omega), Array.getElem?_setIfInBounds, if_neg (by omega), Array.getElem?_setIfInBounds, if_neg (by omega)]; exact a
      · rw [Array.getElem?_setIfInBounds, if_neg (by omega), Array.getElem?_setIfInBounds, if_neg (by omega), Array.getElem?_setIfInBounds, if_neg (by omega)]; exact b

/-- All blocks but one are as they were. -/
structure Turn (B : Nat) (a b : World) : Prop where
  os : b.os = a.os
  tape : b.tape = a.tape
  output : b.output = a.output
  size : a.heap.size ≤ b.heap.size
  block : ∀ k, k < a.heap.size → k ≠ B → b.heap[k]? = a.heap[k]?
theorem Turn.refl (B : Nat) (a : World) : Turn B a a := ⟨rfl, rfl, rfl, Nat.le_refl _, fun _ _ _ => rfl⟩
theorem Turn.trans {B : Nat} {a b c : World} (h : Turn B a b) (k : Turn B b c) : Turn B a c :=
  ⟨k.os.trans h.os, k.tape.trans h.tape, k.output.trans h.output, Nat.le_trans h.size k.size, fun i hi hB => (k.block i (Nat.lt_of_lt_of_le hi h.size) hB).trans (h.block i hi hB)⟩
theorem Turn.of_below {B : Nat} {a b : World} (h : Below a.heap.size a b) : Turn B a b := ⟨h.os, h.tape, h.output, h.size, fun k hk _ => h.block k hk⟩
theorem Turn.set {B : Nat} {a b : World} (h : Turn B a b) (i : Nat) (v : Value) : Turn B a (b.setCell ⟨B, i, none⟩ v) :=
  ⟨h.os, h.tape, h.output, by simpa using h.size, fun k hk h1 => (Below.heap_setCell b ⟨B, i, none⟩ v k (by simpa using h1)).trans (h.block k hk h1)⟩
theorem Turn.drew {B : Nat} {a b : World} (h : Turn B a b) : Turn B a b.drew := ⟨h.os, h.tape, h.output, h.size, h.block⟩
theorem Turn.below {B n : Nat} {a b : World} (h : Turn B a b) (hn : n ≤ a.heap.size) (h1 : n ≤ B) : Below n a b :=
  ⟨h.os, h.tape, h.output, h.size, fun k hk => h.block k (by omega) (by omega)⟩
theorem below_next {W a b : World} (h : Below W.heap.size W a) (k : Below a.heap.size a b) : Below W.heap.size W b := h.trans (k.mono h.size)
theorem below1 (w : World) (o1 : Obj) : Below w.heap.size w (w.alloc o1) := (Below.refl _ _).alloc (Nat.le_refl _) _
theorem bcell {W w1 : World} (hb : Below W.heap.size W w1) : (∀ b o, b < W.heap.size → w1.cell? ⟨b, o, none⟩ = W.cell? ⟨b, o, none⟩) ∧ (∀ b o, b < W.heap.size → w1.frozen? ⟨b, o, none⟩ = W.frozen? ⟨b, o, none⟩) :=
  ⟨fun b o h => hb.cell (p := ⟨b, o, none⟩) h, fun b o h => hb.frozen (p := ⟨b, o, none⟩) h⟩
theorem turn_next {W a b : World} {B : Nat} (h : Below W.heap.size W a) (k : Turn B a b) (h1 : W.heap.size ≤ B) : Below W.heap.size W b := h.trans (k.below h.size h1)

/-- Wake-ups that are so now, and nothing else has changed. -/
def Now (B n : Nat) (l : List Wk) (w w' : World) : Prop := AtB w' B n l ∧ Turn B w w'

set_option maxHeartbeats 1000000 in
theorem new_any (n : Int) (w : World) : Calls Try.prog 7 #[.int .i64 n] w fun e w' => e = .returned (.pointer (some ⟨w.heap.size, 0, none⟩)) ∧ AtB w' w.heap.size (heldN n) [] ∧ Below w.heap.size w w' := by
  obtain ⟨M, hM⟩ : ∃ M : Int, M = max n 0 := ⟨_, rfl⟩
  have hN : ((heldN n : Nat) : Int) = min M 8 := by unfold heldN; omega
  have hmx : ∀ (ats : Array TypeId) (ty : TypeId), Builtin.max_ ats ty #[.int .i64 n, .int .i64 0] = pure (.int .i64 M) := fun _ _ => by
    by_cases h : n < 0
    · simp [Builtin.max_, Builtin.max2, h, show M = 0 by omega]
    · simp [Builtin.max_, Builtin.max2, h, show M = n by omega]
  have hmn : ∀ (ats : Array TypeId) (ty : TypeId), Builtin.min_ ats ty #[.int .i64 M, .int .i64 8] = pure (.int .i64 ((heldN n : Nat) : Int)) := fun _ _ => by
    by_cases h : 8 < M
    · simp [Builtin.min_, Builtin.min2, h, show ((heldN n : Nat) : Int) = 8 by omega]
    · simp [Builtin.min_, Builtin.min2, h, show ((heldN n : Nat) : Int) = M by omega]
  clear hM hN
  generalize heldN n = N at *
  go_enter Try.func7, Try.ntmps7
  go_wp2
  go_ret
  refine ⟨rfl, ⟨_, heap_alloc_new _ _, by simp, by simp, by simp, fun i hi => ?_⟩, (Below.refl _ _).alloc (Nat.le_refl _) _⟩
  match i, hi with
  | 0, _ | 1, _ | 2, _ | 3, _ | 4, _ | 5, _ | 6, _ | 7, _ => simp [wk, zk]
  | n + 8, h => omega

set_option maxHeartbeats 400000 in
theorem len_any (B n : Nat) (l : List Wk) (w : World) (hA : AtB w B n l) : Calls Try.prog 11 #[.pointer (some ⟨B, 0, none⟩)] w fun e w' => e = .returned (.int .i64 (l.length : Int)) ∧ w' = w := by
  obtain ⟨c0, _⟩ := hA.tops
  clear hA
  generalize l.length = k at *
  go_enter Try.func11, Try.ntmps11
  go_wp2
  go_ret
  exact ⟨rfl, rfl⟩
set_option maxHeartbeats 400000 in
theorem len_nil (w : World) : Calls Try.prog 11 #[.pointer none] w fun e w' => e = .returned (.int .i64 0) ∧ w' = w := by
  go_enter Try.func11, Try.ntmps11
  go_wp2
  go_ret
  exact ⟨rfl, rfl⟩
set_option maxHeartbeats 400000 in
theorem deliver_nil (w : World) : Calls Try.prog 13 #[.pointer none] w fun e w' => e = .returned (.slice none 0 0) ∧ w' = w := by
  go_enter Try.func13, Try.ntmps13
  go_wp2
  go_ret
  exact ⟨rfl, rfl⟩

end Go.Proofs.Ytiookbmffdmdeaa
