/-
  Arenas as plain data (places that are taken and given back, and the handles that they answer), and how one lies in memory.
-/
import Derived.Test.YtngaecfainhjcaaRows
import Derived.WalkKit
import Derived.WalkSpells
import Derived.WalkLawsBesides
import Derived.Lib.BufferMore
import Derived.BigQuiet
import Derived.Deep.QuietTactic
namespace Go.Proofs.Ytngaecfainhjcaa.A
open Go.RowKit

structure Plc where
  backs : Nat
  taken : Bool
  next : Nat
structure Ar where
  n : Nat
  f : Nat → Plc
  nx : Nat

def upd (f : Nat → Plc) (k : Nat) (p : Plc) : Nat → Plc := fun i => if i = k then p else f i
theorem upd_same (f : Nat → Plc) (k : Nat) (p : Plc) : upd f k p k = p := by simp [upd]
theorem upd_other (f : Nat → Plc) {k i : Nat} (p : Plc) (h : i ≠ k) : upd f k p i = f i := by simp [upd, h]

/-- The handle of a place that was given back so often. -/
def hd (k g : Nat) : Nat := 1 + k + 16 * g

structure Fit (K : Nat) (s : Ar) : Prop where
  n16 : s.n ≤ 16
  nx : s.nx ≤ s.n
  backs : ∀ i, i < s.n → (s.f i).backs ≤ K
  next : ∀ i, i < s.n → (s.f i).next ≤ s.n

def kOf (h : Int) : Nat := ((h - 1) % 16).toNat
abbrev hits (s : Ar) (h : Int) : Prop := 1 ≤ h ∧ kOf h < s.n ∧ (s.f (kOf h)).taken = true ∧ ((hd (kOf h) (s.f (kOf h)).backs : Nat) : Int) = h
def placeOf (s : Ar) (h : Int) : Int := if hits s h then (kOf h : Int) else -1

def takeH (s : Ar) : Int := if s.nx = s.n then 0 else (hd s.nx (s.f s.nx).backs : Nat)
def takeB (s : Ar) : Bool := if s.nx = s.n then false else true
def takeOf (s : Ar) : Ar := if s.nx = s.n then s else { s with f := upd s.f s.nx { s.f s.nx with taken := true }, nx := (s.f s.nx).next }
def freeAt (s : Ar) (k : Nat) : Ar :=
  if (s.f k).backs + 1 ≤ 255 then { s with f := upd s.f k ⟨(s.f k).backs + 1, false, s.nx⟩, nx := k } else { s with f := upd s.f k ⟨(s.f k).backs + 1, false, (s.f k).next⟩ }
def freeOf (s : Ar) (h : Int) : Ar := if hits s h then freeAt s (kOf h) else s
def freeB (s : Ar) (h : Int) : Bool := if hits s h then true else false

theorem takeOf_fit {K : Nat} {s : Ar} (h : Fit K s) : Fit K (takeOf s) := by
  unfold takeOf
  split
  · exact h
  · rename_i hne
    have hlt : s.nx < s.n := by have := h.nx; omega
    refine ⟨h.n16, h.next _ hlt, fun i hi => ?_, fun i hi => ?_⟩
    · by_cases e : i = s.nx
      · subst e; simp only [upd_same]; exact h.backs _ hi
      · simp only [upd_other _ _ e]; exact h.backs _ hi
    · by_cases e : i = s.nx
      · subst e; simp only [upd_same]; exact h.next _ hi
      · simp only [upd_other _ _ e]; exact h.next _ hi
theorem freeAt_fit {K : Nat} {s : Ar} (h : Fit K s) {k : Nat} (hk : k < s.n) : Fit (K + 1) (freeAt s k) := by
  unfold freeAt
  split
  · refine ⟨h.n16, Nat.le_of_lt hk, fun i hi => ?_, fun i hi => ?_⟩
    · by_cases e : i = k
      · subst e; simp only [upd_same]; have := h.backs _ hi; omega
      · simp only [upd_other _ _ e]; have := h.backs _ hi; omega
    · by_cases e : i = k
      · subst e; simp only [upd_same]; exact h.nx
      · simp only [upd_other _ _ e]; exact h.next _ hi
  · refine ⟨h.n16, h.nx, fun i hi => ?_, fun i hi => ?_⟩
    · by_cases e : i = k
      · subst e; simp only [upd_same]; have := h.backs _ hi; omega
      · simp only [upd_other _ _ e]; have := h.backs _ hi; omega
    · by_cases e : i = k
      · subst e; simp only [upd_same]; exact h.next _ hi
      · simp only [upd_other _ _ e]; exact h.next _ hi
theorem Fit.mono {K L : Nat} {s : Ar} (h : Fit K s) (hl : K ≤ L) : Fit L s := ⟨h.n16, h.nx, fun i hi => Nat.le_trans (h.backs i hi) hl, h.next⟩
theorem freeOf_fit {K : Nat} {s : Ar} (h : Fit K s) (x : Int) : Fit (K + 1) (freeOf s x) := by
  unfold freeOf
  split
  · rename_i hh; exact freeAt_fit h hh.2.1
  · exact h.mono (by omega)

/-- The places of an arena as they lie in a block. -/
def HasP (w : World) (P n : Nat) (f : Nat → Plc) : Prop :=
  ∃ cs, w.heap[P]? = some (.cells cs 59 (0, 0)) ∧ cs.size = n * 3 ∧ ∀ i, i < n → cs[i * 3]? = some (.int .i64 (f i).backs) ∧ cs[i * 3 + 1]? = some (.bool (f i).taken) ∧ cs[i * 3 + 2]? = some (.int .i64 (f i).next)

theorem HasP.cells {w : World} {P n : Nat} {f : Nat → Plc} (h : HasP w P n f) {k : Nat} (hk : k < n) :
    w.cell? ⟨P, k * 3, none⟩ = some (.int .i64 (f k).backs) ∧ w.cell? ⟨P, k * 3 + 1, none⟩ = some (.bool (f k).taken) ∧ w.cell? ⟨P, k * 3 + 2, none⟩ = some (.int .i64 (f k).next) := by
  obtain ⟨cs, h1, h2, h3⟩ := h
  obtain ⟨a, b, c⟩ := h3 k hk
  exact ⟨(Lib.cell_of_heap h1 _).trans a, (Lib.cell_of_heap h1 _).trans b, (Lib.cell_of_heap h1 _).trans c⟩
theorem HasP.frozen {w : World} {P n : Nat} {f : Nat → Plc} (h : HasP w P n f) (j : Nat) : w.frozen? ⟨P, j, none⟩ = false := by
  obtain ⟨cs, h1, _⟩ := h
  exact Lib.frozen_of_heap h1 j
theorem HasP.lt {w : World} {P n : Nat} {f : Nat → Plc} (h : HasP w P n f) : P < w.heap.size := by
  obtain ⟨cs, h1, _⟩ := h
  exact (Array.getElem?_eq_some_iff.1 h1).1
theorem HasP.set {w : World} {P n : Nat} {f : Nat → Plc} (h : HasP w P n f) {k : Nat} (hk : k < n) (j : Nat) (hj : j < 3) (v : Value) (p : Plc)
    (h0 : Value.int .i64 p.backs = if j = 0 then v else .int .i64 (f k).backs) (h1 : Value.bool p.taken = if j = 1 then v else .bool (f k).taken) (h2 : Value.int .i64 p.next = if j = 2 then v else .int .i64 (f k).next) :
    HasP (w.setCell ⟨P, k * 3 + j, none⟩ v) P n (upd f k p) := by
  obtain ⟨cs, c1, c2, c3⟩ := h
  refine ⟨_, Lib.heap_setCell_same c1 v, by simpa using c2, fun i hi => ?_⟩
  obtain ⟨a, b, c⟩ := c3 i hi
  by_cases e : i = k
  · subst e
    rw [upd_same]
    match j, hj with
    | 0, _ => simp at h0 h1 h2; rw [← h0, h1, h2]; refine ⟨?_, ?_, ?_⟩ <;> simp [Array.getElem?_setIfInBounds, b, c]; omega
    | 1, _ => simp at h0 h1 h2; rw [h0, ← h1, h2]; refine ⟨?_, ?_, ?_⟩ <;> simp [Array.getElem?_setIfInBounds, a, c]; omega
    | 2, _ => simp at h0 h1 h2; rw [h0, h1, ← h2]; refine ⟨?_, ?_, ?_⟩ <;> simp [Array.getElem?_setIfInBounds, a, b]; omega
  · rw [upd_other _ _ e]
    refine ⟨?_, ?_, ?_⟩
    · rw [Array.getElem?_setIfInBounds, if_neg (by omega)]; exact a
    · rw [Array.getElem?_setIfInBounds, if_neg (by omega)]; exact b
    · rw [Array.getElem?_setIfInBounds, if_neg (by omega)]; exact c
theorem HasP.other {w w' : World} {P n : Nat} {f : Nat → Plc} (h : HasP w P n f) (k : w'.heap[P]? = w.heap[P]?) : HasP w' P n f := by
  obtain ⟨cs, c1, c2, c3⟩ := h
  exact ⟨cs, k.trans c1, c2, c3⟩

/-- An arena as it lies in memory: its box, and its places. -/
structure AtA (w : World) (B P : Nat) (s : Ar) : Prop where
  box : w.heap[B]? = some (.cells #[.slice (some ⟨P, 0, none⟩) s.n s.n, .int .i64 s.nx] 57 (0, 0))
  row : HasP w P s.n s.f

theorem AtA.ne {w : World} {B P : Nat} {s : Ar} (h : AtA w B P s) : B ≠ P := by
  intro e
  subst e
  obtain ⟨cs, c1, _⟩ := h.row
  have := h.box.symm.trans c1
  simp at this
theorem AtA.ltB {w : World} {B P : Nat} {s : Ar} (h : AtA w B P s) : B < w.heap.size := (Array.getElem?_eq_some_iff.1 h.box).1
theorem AtA.ltP {w : World} {B P : Nat} {s : Ar} (h : AtA w B P s) : P < w.heap.size := h.row.lt
theorem AtA.same {w w' : World} {B P : Nat} {s : Ar} (h : AtA w B P s) (h1 : w'.heap[B]? = w.heap[B]?) (h2 : w'.heap[P]? = w.heap[P]?) : AtA w' B P s := ⟨h1.trans h.box, h.row.other h2⟩
theorem AtA.below {w w' : World} {B P : Nat} {s : Ar} (h : AtA w B P s) (k : Below w.heap.size w w') : AtA w' B P s := h.same (k.block _ h.ltB) (k.block _ h.ltP)
theorem AtA.cells {w : World} {B P : Nat} {s : Ar} (h : AtA w B P s) : w.cell? ⟨B, 0, none⟩ = some (.slice (some ⟨P, 0, none⟩) s.n s.n) ∧ w.cell? ⟨B, 1, none⟩ = some (.int .i64 s.nx) ∧ w.frozen? ⟨B, 1, none⟩ = false :=
  ⟨Lib.cell_of_heap h.box 0, Lib.cell_of_heap h.box 1, Lib.frozen_of_heap h.box 1⟩

theorem AtA.setP {w : World} {B P : Nat} {s : Ar} (h : AtA w B P s) {k : Nat} (hk : k < s.n) (j : Nat) (hj : j < 3) (v : Value) (p : Plc)
    (h0 : Value.int .i64 p.backs = if j = 0 then v else .int .i64 (s.f k).backs) (h1 : Value.bool p.taken = if j = 1 then v else .bool (s.f k).taken) (h2 : Value.int .i64 p.next = if j = 2 then v else .int .i64 (s.f k).next) :
    AtA (w.setCell ⟨P, k * 3 + j, none⟩ v) B P { s with f := upd s.f k p } :=
  ⟨(Below.heap_setCell _ _ _ _ h.ne).trans h.box, h.row.set hk j hj v p h0 h1 h2⟩
theorem AtA.setN {w : World} {B P : Nat} {s : Ar} (h : AtA w B P s) (x : Nat) : AtA (w.setCell ⟨B, 1, none⟩ (.int .i64 x)) B P { s with nx := x } :=
  ⟨Lib.heap_setCell_same h.box _, h.row.other (Below.heap_setCell _ _ _ _ (Ne.symm h.ne))⟩
/-- A place is taken, or not; it was given back once more; it leads to another one. -/
theorem AtA.setTaken {w : World} {B P : Nat} {s : Ar} (h : AtA w B P s) {k : Nat} (hk : k < s.n) (b : Bool) : AtA (w.setCell ⟨P, k * 3 + 1, none⟩ (.bool b)) B P { s with f := upd s.f k { s.f k with taken := b } } :=
  h.setP hk 1 (by omega) _ _ rfl rfl rfl
theorem AtA.setBacks {w : World} {B P : Nat} {s : Ar} (h : AtA w B P s) {k : Nat} (hk : k < s.n) (g : Nat) : AtA (w.setCell ⟨P, k * 3, none⟩ (.int .i64 g)) B P { s with f := upd s.f k { s.f k with backs := g } } :=
  h.setP hk 0 (by omega) _ _ rfl rfl rfl
theorem AtA.setNext {w : World} {B P : Nat} {s : Ar} (h : AtA w B P s) {k : Nat} (hk : k < s.n) (x : Nat) : AtA (w.setCell ⟨P, k * 3 + 2, none⟩ (.int .i64 x)) B P { s with f := upd s.f k { s.f k with next := x } } :=
  h.setP hk 2 (by omega) _ _ rfl rfl rfl
theorem upd_upd (f : Nat → Plc) (k : Nat) (p q : Plc) : upd (upd f k p) k q = upd f k q := by funext i; simp only [upd]; split <;> rfl

/-- All blocks but two are as they were. -/
structure Turn (B P : Nat) (a b : World) : Prop where
  os : b.os = a.os
  tape : b.tape = a.tape
  output : b.output = a.output
  size : a.heap.size ≤ b.heap.size
  block : ∀ k, k < a.heap.size → k ≠ B → k ≠ P → b.heap[k]? = a.heap[k]?
theorem Turn.refl (B P : Nat) (a : World) : Turn B P a a := ⟨rfl, rfl, rfl, Nat.le_refl _, fun _ _ _ _ => rfl⟩
theorem Turn.trans {B P : Nat} {a b c : World} (h : Turn B P a b) (k : Turn B P b c) : Turn B P a c :=
  ⟨k.os.trans h.os, k.tape.trans h.tape, k.output.trans h.output, Nat.le_trans h.size k.size, fun i hi hB hP => (k.block i (Nat.lt_of_lt_of_le hi h.size) hB hP).trans (h.block i hi hB hP)⟩
theorem Turn.of_below {B P : Nat} {a b : World} (h : Below a.heap.size a b) : Turn B P a b := ⟨h.os, h.tape, h.output, h.size, fun k hk _ _ => h.block k hk⟩
theorem Turn.setCell {B P : Nat} {a b : World} (h : Turn B P a b) {p : Addr} (hp : p.block = B ∨ p.block = P) (v : Value) : Turn B P a (b.setCell p v) :=
  ⟨h.os, h.tape, h.output, by simpa using h.size, fun k hk h1 h2 => (Below.heap_setCell b p v k (by rcases hp with hp | hp <;> omega)).trans (h.block k hk h1 h2)⟩
theorem Turn.setB {B P : Nat} {a b : World} (h : Turn B P a b) (i : Nat) (v : Value) : Turn B P a (b.setCell ⟨B, i, none⟩ v) := h.setCell (p := ⟨B, i, none⟩) (Or.inl rfl) v
theorem Turn.setP {B P : Nat} {a b : World} (h : Turn B P a b) (i : Nat) (v : Value) : Turn B P a (b.setCell ⟨P, i, none⟩ v) := h.setCell (p := ⟨P, i, none⟩) (Or.inr rfl) v
theorem below_drewN (a : World) (n : Nat) : Below a.heap.size a (a.drewN n) := ⟨rfl, rfl, rfl, Nat.le_refl _, fun _ _ => rfl⟩
theorem Turn.drew {B P : Nat} {a b : World} (h : Turn B P a b) : Turn B P a b.drew := ⟨h.os, h.tape, h.output, h.size, h.block⟩
theorem Turn.below {B P n : Nat} {a b : World} (h : Turn B P a b) (hn : n ≤ a.heap.size) (h1 : n ≤ B) (h2 : n ≤ P) : Below n a b :=
  ⟨h.os, h.tape, h.output, h.size, fun k hk => h.block k (by omega) (by omega) (by omega)⟩

theorem below_next {W a b : World} (h : Below W.heap.size W a) (k : Below a.heap.size a b) : Below W.heap.size W b := h.trans (k.mono h.size)
theorem bcell {W w1 : World} (hb : Below W.heap.size W w1) : (∀ b o, b < W.heap.size → w1.cell? ⟨b, o, none⟩ = W.cell? ⟨b, o, none⟩) ∧ (∀ b o, b < W.heap.size → w1.frozen? ⟨b, o, none⟩ = W.frozen? ⟨b, o, none⟩) :=
  ⟨fun b o h => hb.cell (p := ⟨b, o, none⟩) h, fun b o h => hb.frozen (p := ⟨b, o, none⟩) h⟩

end Go.Proofs.Ytngaecfainhjcaa.A
