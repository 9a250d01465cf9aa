/-
  How queues lie in memory: the box, and the block of its places.
-/
import Derived.Test.YtonahaembfbgbaaMath
import Derived.WalkSpells
import Derived.WalkLawsBesides
import Derived.Lib.BufferMore
import Derived.BigQuiet
import Derived.Deep.QuietTactic
namespace Go.Proofs.Ytonahaembfbgbaa
open Go.RowKit

/-- The places as they lie in a block. -/
def HasP (w : World) (P n : Nat) (f : Nat → Plc) : Prop :=
  ∃ cs, w.heap[P]? = some (.cells cs 50 (0, 0)) ∧ cs.size = n * 3 ∧ ∀ i, i < n → cs[i * 3]? = some (.int .i64 (f i).q) ∧ cs[i * 3 + 1]? = some (.int .i64 ((f i).a : Int)) ∧ cs[i * 3 + 2]? = some (.int .i64 ((f i).b : Int))

theorem HasP.cells {w : World} {P n : Nat} {f : Nat → Plc} (h : HasP w P n f) {k : Nat} (hk : k < n) :
    w.cell? ⟨P, k * 3, none⟩ = some (.int .i64 (f k).q) ∧ w.cell? ⟨P, k * 3 + 1, none⟩ = some (.int .i64 ((f k).a : Int)) ∧ w.cell? ⟨P, k * 3 + 2, none⟩ = some (.int .i64 ((f k).b : Int)) := by
  obtain ⟨cs, h1, h2, h3⟩ := h
  obtain ⟨a, b, c⟩ := h3 k hk
  exact ⟨(Lib.cell_of_heap h1 _).trans a, (Lib.cell_of_heap h1 _).trans b, (Lib.cell_of_heap h1 _).trans c⟩
theorem HasP.frozen {w : World} {P n : Nat} {f : Nat → Plc} (h : HasP w P n f) (j : Nat) : w.frozen? ⟨P, j, none⟩ = false := by
  obtain ⟨cs, h1, _⟩ := h
  exact Lib.frozen_of_heap h1 j
theorem HasP.lt {w : World} {P n : Nat} {f : Nat → Plc} (h : HasP w P n f) : P < w.heap.size := by
  obtain ⟨cs, h1, _⟩ := h
  exact (Array.getElem?_eq_some_iff.1 h1).1
theorem HasP.set {w : World} {P n : Nat} {f : Nat → Plc} (h : HasP w P n f) {k : Nat} (hk : k < n) (j : Nat) (hj : j < 3) (v : Value) (p : Plc)
    (h0 : Value.int .i64 p.q = if j = 0 then v else .int .i64 (f k).q) (h1 : Value.int .i64 (p.a : Int) = if j = 1 then v else .int .i64 ((f k).a : Int)) (h2 : Value.int .i64 (p.b : Int) = if j = 2 then v else .int .i64 ((f k).b : Int)) :
    HasP (w.setCell ⟨P, k * 3 + j, none⟩ v) P n (upd f k p) := by
  obtain ⟨cs, c1, c2, c3⟩ := h
  refine ⟨_, Lib.heap_setCell_same c1 v, by simpa using c2, fun i hi => ?_⟩
  obtain ⟨a, b, c⟩ := c3 i hi
  by_cases e : i = k
  · subst e
    rw [upd_same]
    match j, hj with
    | 0, _ => rw [h0, h1, h2]; simp only [Array.getElem?_setIfInBounds]; refine ⟨?_, ?_, ?_⟩ <;> simp [b, c]; omega
    | 1, _ => rw [h0, h1, h2]; simp only [Array.getElem?_setIfInBounds]; refine ⟨?_, ?_, ?_⟩ <;> simp [a, c]; omega
    | 2, _ => rw [h0, h1, h2]; simp only [Array.getElem?_setIfInBounds]; refine ⟨?_, ?_, ?_⟩ <;> simp [a, b]; omega
  · rw [upd_other _ _ e]
    refine ⟨?_, ?_, ?_⟩
    · rw [Array.getElem?_setIfInBounds, if_neg (by omega)]; exact a
    · rw [Array.getElem?_setIfInBounds, if_neg (by omega)]; exact b
    · rw [Array.getElem?_setIfInBounds, if_neg (by omega)]; exact c
theorem HasP.setQ {w : World} {P n : Nat} {f : Nat → Plc} (h : HasP w P n f) {k : Nat} (hk : k < n) (x : Int) : HasP (w.setCell ⟨P, k * 3, none⟩ (.int .i64 x)) P n (upd f k { f k with q := x }) := h.set hk 0 (by omega) _ _ rfl rfl rfl
theorem HasP.setA {w : World} {P n : Nat} {f : Nat → Plc} (h : HasP w P n f) {k : Nat} (hk : k < n) (x : Nat) : HasP (w.setCell ⟨P, k * 3 + 1, none⟩ (.int .i64 (x : Int))) P n (upd f k { f k with a := x }) := h.set hk 1 (by omega) _ _ rfl rfl rfl
theorem HasP.setB {w : World} {P n : Nat} {f : Nat → Plc} (h : HasP w P n f) {k : Nat} (hk : k < n) (x : Nat) : HasP (w.setCell ⟨P, k * 3 + 2, none⟩ (.int .i64 (x : Int))) P n (upd f k { f k with b := x }) := h.set hk 2 (by omega) _ _ rfl rfl rfl
theorem HasP.setAll {w : World} {P n : Nat} {f : Nat → Plc} (h : HasP w P n f) {k : Nat} (hk : k < n) (p : Plc) :
    HasP (((w.setCell ⟨P, k * 3, none⟩ (.int .i64 p.q)).setCell ⟨P, k * 3 + 1, none⟩ (.int .i64 (p.a : Int))).setCell ⟨P, k * 3 + 2, none⟩ (.int .i64 (p.b : Int))) P n (upd f k p) := by
  have e := ((h.setQ hk p.q).setA hk p.a).setB hk p.b
  simpa only [upd_upd, upd_same] using e
theorem HasP.other {w w' : World} {P n : Nat} {f : Nat → Plc} (h : HasP w P n f) (k : w'.heap[P]? = w.heap[P]?) : HasP w' P n f := by
  obtain ⟨cs, c1, c2, c3⟩ := h
  exact ⟨cs, k.trans c1, c2, c3⟩
theorem HasP.to {w : World} {P n : Nat} {f g : Nat → Plc} (h : HasP w P n f) (e : ∀ i, i < n → g i = f i) : HasP w P n g := by
  obtain ⟨cs, c1, c2, c3⟩ := h
  exact ⟨cs, c1, c2, fun i hi => by rw [e i hi]; exact c3 i hi⟩

/-- The box and the places. -/
structure AtF (w : World) (B P n ni : Nat) (f : Nat → Plc) : Prop where
  box : w.heap[B]? = some (.cells #[.slice (some ⟨P, 0, none⟩) n n, .int .i64 (ni : Int)] 48 (0, 0))
  row : HasP w P n f
theorem AtF.ne {w : World} {B P n ni : Nat} {f : Nat → Plc} (h : AtF w B P n ni f) : B ≠ P := by
  intro e
  subst e
  obtain ⟨cs, c1, _⟩ := h.row
  have := h.box.symm.trans c1
  simp at this
theorem AtF.ltB {w : World} {B P n ni : Nat} {f : Nat → Plc} (h : AtF w B P n ni f) : B < w.heap.size := (Array.getElem?_eq_some_iff.1 h.box).1
theorem AtF.ltP {w : World} {B P n ni : Nat} {f : Nat → Plc} (h : AtF w B P n ni f) : P < w.heap.size := h.row.lt
theorem AtF.same {w w' : World} {B P n ni : Nat} {f : Nat → Plc} (h : AtF w B P n ni f) (h1 : w'.heap[B]? = w.heap[B]?) (h2 : w'.heap[P]? = w.heap[P]?) : AtF w' B P n ni f := ⟨h1.trans h.box, h.row.other h2⟩
theorem AtF.below {w w' : World} {B P n ni : Nat} {f : Nat → Plc} (h : AtF w B P n ni f) (k : Below w.heap.size w w') : AtF w' B P n ni f := h.same (k.block _ h.ltB) (k.block _ h.ltP)
theorem AtF.cells {w : World} {B P n ni : Nat} {f : Nat → Plc} (h : AtF w B P n ni f) : w.cell? ⟨B, 0, none⟩ = some (.slice (some ⟨P, 0, none⟩) n n) ∧ w.cell? ⟨B, 1, none⟩ = some (.int .i64 (ni : Int)) :=
  ⟨Lib.cell_of_heap h.box 0, Lib.cell_of_heap h.box 1⟩
theorem AtF.set {w w' : World} {B P n ni : Nat} {f g : Nat → Plc} (h : AtF w B P n ni f) (hb : w'.heap[B]? = w.heap[B]?) (hp : HasP w' P n g) : AtF w' B P n ni g := ⟨hb.trans h.box, hp⟩
theorem AtF.setQ {w : World} {B P n ni : Nat} {f : Nat → Plc} (h : AtF w B P n ni f) {k : Nat} (hk : k < n) (x : Int) : AtF (w.setCell ⟨P, k * 3, none⟩ (.int .i64 x)) B P n ni (upd f k { f k with q := x }) :=
  h.set (Below.heap_setCell _ _ _ _ h.ne) (h.row.setQ hk x)
theorem AtF.setA {w : World} {B P n ni : Nat} {f : Nat → Plc} (h : AtF w B P n ni f) {k : Nat} (hk : k < n) (x : Nat) : AtF (w.setCell ⟨P, k * 3 + 1, none⟩ (.int .i64 (x : Int))) B P n ni (upd f k { f k with a := x }) :=
  h.set (Below.heap_setCell _ _ _ _ h.ne) (h.row.setA hk x)
theorem AtF.setB {w : World} {B P n ni : Nat} {f : Nat → Plc} (h : AtF w B P n ni f) {k : Nat} (hk : k < n) (x : Nat) : AtF (w.setCell ⟨P, k * 3 + 2, none⟩ (.int .i64 (x : Int))) B P n ni (upd f k { f k with b := x }) :=
  h.set (Below.heap_setCell _ _ _ _ h.ne) (h.row.setB hk x)
theorem AtF.setAll {w : World} {B P n ni : Nat} {f : Nat → Plc} (h : AtF w B P n ni f) {k : Nat} (hk : k < n) (p : Plc) :
    AtF (((w.setCell ⟨P, k * 3, none⟩ (.int .i64 p.q)).setCell ⟨P, k * 3 + 1, none⟩ (.int .i64 (p.a : Int))).setCell ⟨P, k * 3 + 2, none⟩ (.int .i64 (p.b : Int))) B P n ni (upd f k p) := by
  have e := ((h.setQ hk p.q).setA hk p.a).setB hk p.b
  simpa only [upd_upd, upd_same] using e

/-- Queues as they lie in memory. -/
def AtQ (w : World) (B P : Nat) (s : Qs) : Prop := ∃ f, Rep s f ∧ AtF w B P (s.ni + s.nq) s.ni f
theorem AtQ.ne {w : World} {B P : Nat} {s : Qs} (h : AtQ w B P s) : B ≠ P := by obtain ⟨f, _, h⟩ := h; exact h.ne
theorem AtQ.ltB {w : World} {B P : Nat} {s : Qs} (h : AtQ w B P s) : B < w.heap.size := by obtain ⟨f, _, h⟩ := h; exact h.ltB
theorem AtQ.ltP {w : World} {B P : Nat} {s : Qs} (h : AtQ w B P s) : P < w.heap.size := by obtain ⟨f, _, h⟩ := h; exact h.ltP
theorem AtQ.same {w w' : World} {B P : Nat} {s : Qs} (h : AtQ w B P s) (h1 : w'.heap[B]? = w.heap[B]?) (h2 : w'.heap[P]? = w.heap[P]?) : AtQ w' B P s := by
  obtain ⟨f, hr, h⟩ := h; exact ⟨f, hr, h.same h1 h2⟩
theorem AtQ.below {w w' : World} {B P : Nat} {s : Qs} (h : AtQ w B P s) (k : Below w.heap.size w w') : AtQ w' B P s := h.same (k.block _ h.ltB) (k.block _ h.ltP)

/-- All blocks but two are as they were. -/
structure Turn (B P : Nat) (a b : World) : Prop where
  os : b.os = a.os
  tape : b.tape = a.tape
  output : b.output = a.output
  size : a.heap.size ≤ b.heap.size
  block : ∀ k, k < a.heap.size → k ≠ B → k ≠ P → b.heap[k]? = a.heap[k]?
theorem Turn.refl (B P : Nat) (a : World) : Turn B P a a := ⟨rfl, rfl, rfl, Nat.le_refl _, fun _ _ _ _ => rfl⟩
theorem Turn.trans {B P : Nat} {a b c : World} (h : Turn B P a b) (k : Turn B P b c) : Turn B P a c :=
  ⟨k.os.trans h.os, k.tape.trans h.tape, k.output.trans h.output, Nat.le_trans h.size k.size, fun i hi hB hP => (k.block i (Nat.lt_of_lt_of_le hi h.size) hB hP).trans (h.block i hi hB hP)⟩
theorem Turn.of_below {B P : Nat} {a b : World} (h : Below a.heap.size a b) : Turn B P a b := ⟨h.os, h.tape, h.output, h.size, fun k hk _ _ => h.block k hk⟩
theorem Turn.setCell {B P : Nat} {a b : World} (h : Turn B P a b) {p : Addr} (hp : p.block = B ∨ p.block = P) (v : Value) : Turn B P a (b.setCell p v) :=
  ⟨h.os, h.tape, h.output, by simpa using h.size, fun k hk h1 h2 => (Below.heap_setCell b p v k (by rcases hp with hp | hp <;> omega)).trans (h.block k hk h1 h2)⟩
theorem Turn.setB {B P : Nat} {a b : World} (h : Turn B P a b) (i : Nat) (v : Value) : Turn B P a (b.setCell ⟨B, i, none⟩ v) := h.setCell (p := ⟨B, i, none⟩) (Or.inl rfl) v
theorem Turn.setP {B P : Nat} {a b : World} (h : Turn B P a b) (i : Nat) (v : Value) : Turn B P a (b.setCell ⟨P, i, none⟩ v) := h.setCell (p := ⟨P, i, none⟩) (Or.inr rfl) v
theorem below_drewN (a : World) (n : Nat) : Below a.heap.size a (a.drewN n) := ⟨rfl, rfl, rfl, Nat.le_refl _, fun _ _ => rfl⟩
theorem Turn.drew {B P : Nat} {a b : World} (h : Turn B P a b) : Turn B P a b.drew := ⟨h.os, h.tape, h.output, h.size, h.block⟩
theorem Turn.below {B P n : Nat} {a b : World} (h : Turn B P a b) (hn : n ≤ a.heap.size) (h1 : n ≤ B) (h2 : n ≤ P) : Below n a b :=
  ⟨h.os, h.tape, h.output, h.size, fun k hk => h.block k (by omega) (by omega) (by omega)⟩

theorem below_next {W a b : World} (h : Below W.heap.size W a) (k : Below a.heap.size a b) : Below W.heap.size W b := h.trans (k.mono h.size)
theorem bcell {W w1 : World} (hb : Below W.heap.size W w1) : (∀ b o, b < W.heap.size → w1.cell? ⟨b, o, none⟩ = W.cell? ⟨b, o, none⟩) ∧ (∀ b o, b < W.heap.size → w1.frozen? ⟨b, o, none⟩ = W.frozen? ⟨b, o, none⟩) :=
  ⟨fun b o h => hb.cell (p := ⟨b, o, none⟩) h, fun b o h => hb.frozen (p := ⟨b, o, none⟩) h⟩

end Go.Proofs.Ytonahaembfbgbaa
