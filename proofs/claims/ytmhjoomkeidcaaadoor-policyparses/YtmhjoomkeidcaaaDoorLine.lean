/-
  What a line of a policy's text adds to it, or what is wrong; and a policy's three lists as a call gathers them in memory.
-/
import Derived.Test.YtmhjoomkeidcaaaDoorTexts
import Derived.Deep.AppendLies
namespace Go.Proofs.YtmhjoomkeidcaaaDoor
open Go.RowKit

def kwDomain : ByteArray := ⟨#[100, 111, 109, 97, 105, 110]⟩
def kwSlot : ByteArray := ⟨#[115, 108, 111, 116]⟩
def kwCell : ByteArray := ⟨#[99, 101, 108, 108]⟩
def kwPump : ByteArray := ⟨#[112, 117, 109, 112]⟩

/-- The line of a domain: what is wrong (0: nothing), and the policy behind it. -/
def domLine (p : Pol) (nm lb a b c : ByteArray) : Nat × Pol :=
  if (!L2.nameB nm || decide (0 ≤ placeOf p.ds nm)) = true then (4, p)
  else match L2.refRead lb with
    | none => (3, p)
    | some (l, k) => match numsOf [a, b, c] 3 with
      | some [x, y, z] => (0, { p with ds := p.ds ++ [⟨nm, (l : Int), (k : Int), (x : Int), (y : Int), (z : Int)⟩] })
      | _ => (2, p)
def slotLine (p : Pol) (nm a : ByteArray) : Nat × Pol :=
  if placeOf p.ds nm < 0 then (4, p)
  else match numsOf [a] 1 with
    | some [x] => (0, { p with ss := p.ss ++ [⟨placeOf p.ds nm, (x : Int)⟩] })
    | _ => (2, p)
def linkLine (p : Pol) (kind : Int) (nm nm2 a : ByteArray) : Nat × Pol :=
  if placeOf p.ds nm < 0 ∨ placeOf p.ds nm2 < 0 then (4, p)
  else match numsOf [a] 1 with
    | some [x] => (0, { p with ls := p.ls ++ [⟨kind, placeOf p.ds nm, placeOf p.ds nm2, (x : Int)⟩] })
    | _ => (2, p)
def lineOf (p : Pol) (row : List ByteArray) : Nat × Pol := match row with
  | [k, nm, lb, a, b, c] => if k = kwDomain then domLine p nm lb a b c else (2, p)
  | [k, nm, a] => if k = kwSlot then slotLine p nm a else (2, p)
  | [k, nm, nm2, a] => if k = kwCell then linkLine p 1 nm nm2 a else if k = kwPump then linkLine p 2 nm nm2 a else (2, p)
  | _ => (2, p)

theorem nums_one (a : ByteArray) : (numsOf [a] 1 = none) ∨ ∃ x, numsOf [a] 1 = some [x] := by
  simp only [numsOf]
  cases numOf (List.getD [a] 0 ⟨#[]⟩) with
  | none => exact Or.inl rfl
  | some x => exact Or.inr ⟨x, rfl⟩
theorem nums_three (a b c : ByteArray) : (numsOf [a, b, c] 3 = none) ∨ ∃ x y z, numsOf [a, b, c] 3 = some [x, y, z] := by
  cases h : numsOf [a, b, c] 3 with
  | none => exact Or.inl rfl
  | some l =>
    have := numsOf_length h
    match l, this with
    | [x, y, z], _ => exact Or.inr ⟨x, y, z, rfl⟩

/-- Blocks below a number stay, but for one. -/
structure But (B base : Nat) (a b : World) : Prop where
  os : b.os = a.os
  tape : b.tape = a.tape
  output : b.output = a.output
  size : a.heap.size ≤ b.heap.size
  block : ∀ k, k < base → k ≠ B → b.heap[k]? = a.heap[k]?
theorem But.refl (B base : Nat) (a : World) : But B base a a := ⟨rfl, rfl, rfl, Nat.le_refl _, fun _ _ _ => rfl⟩
theorem But.trans {B base : Nat} {a b c : World} (h : But B base a b) (k : But B base b c) : But B base a c :=
  ⟨k.os.trans h.os, k.tape.trans h.tape, k.output.trans h.output, Nat.le_trans h.size k.size, fun i hi hB => (k.block i hi hB).trans (h.block i hi hB)⟩
theorem Below.but {B base : Nat} {a b : World} (h : Below a.heap.size a b) (hb : base ≤ a.heap.size) : But B base a b :=
  ⟨h.os, h.tape, h.output, h.size, fun k hk _ => h.block k (by omega)⟩

/-- A policy that a call gathers: its three lists in the call's own memory, and the box that holds them. -/
structure PAt (w : World) (B base : Nat) (v1 v2 v3 : Value) (p : Pol) : Prop where
  blk : w.heap[B]? = some (.cells #[v1, v2, v3] 26 (0, 0))
  d : w.ownsRow base 37 6 v1 p.ds.length (cellsD p.ds)
  s : w.ownsRow base 39 2 v2 p.ss.length (cellsS p.ss)
  l : w.ownsRow base 32 4 v3 p.ls.length (cellsL p.ls)
  lt : B < base
  le : base ≤ w.heap.size

theorem PAt.below {w w' : World} {B base : Nat} {v1 v2 v3 : Value} {p : Pol} (h : PAt w B base v1 v2 v3 p) (k : Below w.heap.size w w') : PAt w' B base v1 v2 v3 p where
  blk := (k.block B (by have := h.lt; have := h.le; omega)).trans h.blk
  d := L3.owns_below h.d k
  s := L3.owns_below h.s k
  l := L3.owns_below h.l k
  lt := h.lt
  le := Nat.le_trans h.le k.size

/-- What is owned stays where another block turns. -/
theorem owns_grown {w w' : World} {base : Nat} {e e' : TypeId} {size : Nat} {v : Value} {n g : Nat} {xs : List Value} {cs : Array Value} {fr : Nat × Nat} (h : w.ownsRow base e size v n xs) (hg : w.heap[g]? = some (.cells cs e' fr)) (he : e ≠ e') (k : w.grownBy w' (some g)) : w'.ownsRow base e size v n xs := by
  obtain ⟨h1, h2⟩ := h
  refine ⟨h1, ?_⟩
  rcases h2 with h2 | ⟨g2, cap, cur, hv, hgb, hh, r⟩
  · exact Or.inl h2
  · refine Or.inr ⟨g2, cap, cur, hv, hgb, ?_, r⟩
    rw [k.block g2 (Array.getElem?_eq_some_iff.1 hh).1]
    · exact hh
    · intro e1
      injection e1 with e1
      subst e1
      rw [hg] at hh
      injection hh with hh
      injection hh with _ hh
      exact he hh.symm

/-- The row that an append may turn. -/
theorem owns_row {w w' : World} {base : Nat} {e e' : TypeId} {size size' : Nat} {v v' : Value} {n n' : Nat} {xs xs' : List Value} (h : w.ownsRow base e size v n xs) (h' : w.ownsRow base e' size' v' n' xs') (he : e ≠ e') (k : w.grownBy w' v'.ownBlock) : w'.ownsRow base e size v n xs := by
  rcases h'.2 with ⟨e1, _⟩ | ⟨g, cap, cur, hv, _, hh, _⟩
  · subst e1
    exact L3.owns_below h ⟨k.os, k.tape, k.output, k.size, fun i hi => k.block i hi (by simp [Value.ownBlock])⟩
  · subst hv
    exact owns_grown h hh he k

theorem cellsD_append (a b : List Dm) : cellsD (a ++ b) = cellsD a ++ cellsD b := by simp [cellsD]
theorem cellsS_append (a b : List Sl) : cellsS (a ++ b) = cellsS a ++ cellsS b := by simp [cellsS]
theorem cellsL_append (a b : List Lk) : cellsL (a ++ b) = cellsL a ++ cellsL b := by simp [cellsL]

/-- The box of three lists, of which one is another one now. -/
theorem blk_set {w : World} {B : Nat} {v1 v2 v3 : Value} (h : w.heap[B]? = some (.cells #[v1, v2, v3] 26 (0, 0))) (u : Value) :
    (w.setCell ⟨B, 0, none⟩ u).heap[B]? = some (.cells #[u, v2, v3] 26 (0, 0)) ∧ (w.setCell ⟨B, 1, none⟩ u).heap[B]? = some (.cells #[v1, u, v3] 26 (0, 0)) ∧ (w.setCell ⟨B, 2, none⟩ u).heap[B]? = some (.cells #[v1, v2, u] 26 (0, 0)) :=
  ⟨Lib.heap_setCell_same h u, Lib.heap_setCell_same h u, Lib.heap_setCell_same h u⟩
theorem blk_cells {w : World} {B : Nat} {v1 v2 v3 : Value} (h : w.heap[B]? = some (.cells #[v1, v2, v3] 26 (0, 0))) :
    w.cell? ⟨B, 0, none⟩ = some v1 ∧ w.cell? ⟨B, 1, none⟩ = some v2 ∧ w.cell? ⟨B, 2, none⟩ = some v3 ∧ w.frozen? ⟨B, 0, none⟩ = false ∧ w.frozen? ⟨B, 1, none⟩ = false ∧ w.frozen? ⟨B, 2, none⟩ = false :=
  ⟨Lib.cell_of_heap h 0, Lib.cell_of_heap h 1, Lib.cell_of_heap h 2, Lib.frozen_of_heap h 0, Lib.frozen_of_heap h 1, Lib.frozen_of_heap h 2⟩

theorem owns_lies {w : World} {B : Nat} {e : TypeId} {size n : Nat} {v : Value} {xs : List Value} (h : w.ownsRow B e size v n xs) (h0 : n = 0 → xs = []) : ∃ ad cap, v = .slice ad n cap ∧ n ≤ cap ∧ Lies w ad xs := by
  rcases h.2 with ⟨h1, h2⟩ | ⟨g, cap, cur, hv, hg, hh, hc, _⟩
  · exact ⟨none, 0, by rw [h1, h2], by omega, Or.inl (h0 h2)⟩
  · subst hv
    obtain ⟨h3, _, h5, _⟩ := L3.owns_cell h
    exact ⟨_, _, rfl, hc, Or.inr ⟨g, 0, rfl, h5, fun j u hj => by rw [Nat.zero_add]; exact h3 j u hj⟩⟩

theorem PAt.held {w : World} {B base : Nat} {v1 v2 v3 : Value} {p : Pol} (h : PAt w B base v1 v2 v3 p) :
    ∃ a1 a2 a3 c1 c2 c3, v1 = .slice a1 p.ds.length c1 ∧ v2 = .slice a2 p.ss.length c2 ∧ v3 = .slice a3 p.ls.length c3 ∧ Held w a1 a2 a3 c1 c2 c3 p := by
  obtain ⟨a1, c1, e1, k1, l1⟩ := owns_lies h.d (fun e => by rw [List.length_eq_zero_iff.1 e]; rfl)
  obtain ⟨a2, c2, e2, k2, l2⟩ := owns_lies h.s (fun e => by rw [List.length_eq_zero_iff.1 e]; rfl)
  obtain ⟨a3, c3, e3, k3, l3⟩ := owns_lies h.l (fun e => by rw [List.length_eq_zero_iff.1 e]; rfl)
  exact ⟨a1, a2, a3, c1, c2, c3, e1, e2, e3, l1, l2, l3, k1, k2, k3⟩

/-- The world in which an append begins: the element was laid, and an order drawn. -/
theorem drawn_below {w2 : World} (o : Obj) : Below w2.heap.size w2 (w2.alloc o).drew := ((Below.refl _ _).alloc (Nat.le_refl _) o).drew

theorem grown_far {wa w5 : World} {base B : Nat} {v : Value} {j : Nat} {u : Value} (hown : ∀ g, v.ownBlock = some g → base ≤ g) (hg : wa.grownBy w5 v.ownBlock) (hs : base ≤ wa.heap.size) : But B base wa (w5.setCell ⟨B, j, none⟩ u) :=
  ⟨hg.os, hg.tape, hg.output, by simp only [World.setCell, Array.size_modify]; exact hg.size, fun k hk hkB => by
    rw [Below.heap_setCell _ _ _ _ hkB]
    exact hg.block k (by omega) (fun e => by have := hown k e.symm; omega)⟩
theorem grown_blk {wa w5 : World} {base B : Nat} {v : Value} {o : Option Obj} (hown : ∀ g, v.ownBlock = some g → base ≤ g) (hg : wa.grownBy w5 v.ownBlock) (hB : B < base) (hs : base ≤ wa.heap.size) (h : wa.heap[B]? = o) : w5.heap[B]? = o :=
  (hg.block B (by omega) (fun e => by have := hown B e.symm; omega)).trans h

theorem put_dom {wa w5 : World} {B base : Nat} {v1 v2 v3 V : Value} {p : Pol} {x : Dm} (h : PAt wa B base v1 v2 v3 p) (hown : w5.ownsRow base 37 6 V (p.ds.length + 1) (cellsD p.ds ++ cD x)) (hg : wa.grownBy w5 v1.ownBlock) :
    PAt (w5.setCell ⟨B, 0, none⟩ V) B base V v2 v3 { p with ds := p.ds ++ [x] } ∧ But B base wa (w5.setCell ⟨B, 0, none⟩ V) := by
  have ho := fun g hgg => (h.d.lt g hgg).1
  refine ⟨⟨(blk_set (grown_blk ho hg h.lt h.le h.blk) V).1, ?_, ?_, ?_, h.lt, ?_⟩, grown_far ho hg h.le⟩
  · refine ownsRow_setCell_below ?_ h.lt V
    dsimp only
    rw [cellsD_append, List.length_append, show cellsD [x] = cD x by simp [cellsD]]
    exact hown
  · exact ownsRow_setCell_below (owns_row h.s h.d (by decide) hg) h.lt V
  · exact ownsRow_setCell_below (owns_row h.l h.d (by decide) hg) h.lt V
  · simp only [World.setCell, Array.size_modify]; exact Nat.le_trans h.le hg.size
theorem put_slot {wa w5 : World} {B base : Nat} {v1 v2 v3 V : Value} {p : Pol} {x : Sl} (h : PAt wa B base v1 v2 v3 p) (hown : w5.ownsRow base 39 2 V (p.ss.length + 1) (cellsS p.ss ++ cS x)) (hg : wa.grownBy w5 v2.ownBlock) :
    PAt (w5.setCell ⟨B, 1, none⟩ V) B base v1 V v3 { p with ss := p.ss ++ [x] } ∧ But B base wa (w5.setCell ⟨B, 1, none⟩ V) := by
  have ho := fun g hgg => (h.s.lt g hgg).1
  refine ⟨⟨(blk_set (grown_blk ho hg h.lt h.le h.blk) V).2.1, ?_, ?_, ?_, h.lt, ?_⟩, grown_far ho hg h.le⟩
  · exact ownsRow_setCell_below (owns_row h.d h.s (by decide) hg) h.lt V
  · refine ownsRow_setCell_below ?_ h.lt V
    dsimp only
    rw [cellsS_append, List.length_append, show cellsS [x] = cS x by simp [cellsS]]
    exact hown
  · exact ownsRow_setCell_below (owns_row h.l h.s (by decide) hg) h.lt V
  · simp only [World.setCell, Array.size_modify]; exact Nat.le_trans h.le hg.size
theorem put_link {wa w5 : World} {B base : Nat} {v1 v2 v3 V : Value} {p : Pol} {x : Lk} (h : PAt wa B base v1 v2 v3 p) (hown : w5.ownsRow base 32 4 V (p.ls.length + 1) (cellsL p.ls ++ cL x)) (hg : wa.grownBy w5 v3.ownBlock) :
    PAt (w5.setCell ⟨B, 2, none⟩ V) B base v1 v2 V { p with ls := p.ls ++ [x] } ∧ But B base wa (w5.setCell ⟨B, 2, none⟩ V) := by
  have ho := fun g hgg => (h.l.lt g hgg).1
  refine ⟨⟨(blk_set (grown_blk ho hg h.lt h.le h.blk) V).2.2, ?_, ?_, ?_, h.lt, ?_⟩, grown_far ho hg h.le⟩
  · exact ownsRow_setCell_below (owns_row h.d h.l (by decide) hg) h.lt V
  · exact ownsRow_setCell_below (owns_row h.s h.l (by decide) hg) h.lt V
  · refine ownsRow_setCell_below ?_ h.lt V
    dsimp only
    rw [cellsL_append, List.length_append, show cellsL [x] = cL x by simp [cellsL]]
    exact hown
  · simp only [World.setCell, Array.size_modify]; exact Nat.le_trans h.le hg.size

end Go.Proofs.YtmhjoomkeidcaaaDoor
