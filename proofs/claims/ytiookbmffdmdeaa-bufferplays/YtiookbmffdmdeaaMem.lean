/-
  Lists that are handed in, as they lie in memory; two buffers side by side; a buffer beside the document's; a buffer beside a row.
-/
import Derived.Test.YtiookbmffdmdeaaAwake
namespace Go.Proofs.Ytiookbmffdmdeaa
open Go.RowKit

/-- A list of wake-ups that is handed in. -/
def Acts (w : World) (ad : Option Addr) (len : Nat) : Prop := ∀ i, i < len → ∃ b off, ∃ x y : Int, ad = some ⟨b, off, none⟩ ∧ b < w.heap.size ∧ w.cell? ⟨b, off + i * 2, none⟩ = some (.int .i64 x) ∧ w.cell? ⟨b, off + i * 2 + 1, none⟩ = some (.int .i64 y)
theorem Acts.below {w w' : World} {ad : Option Addr} {len : Nat} (h : Acts w ad len) (k : Below w.heap.size w w') : Acts w' ad len := fun i hi => by
  obtain ⟨b, off, x, y, h1, h2, h3, h4⟩ := h i hi
  exact ⟨b, off, x, y, h1, Nat.lt_of_lt_of_le h2 k.size, (k.cell (p := ⟨b, _, none⟩) h2).trans h3, (k.cell (p := ⟨b, _, none⟩) h2).trans h4⟩
/-- A list of bytes that is handed in. -/
def Bytes (w : World) (ad : Option Addr) (len : Nat) : Prop := ∀ i, i < len → ∃ b off, ∃ x : Int, ad = some ⟨b, off, none⟩ ∧ b < w.heap.size ∧ w.cell? ⟨b, off + i, none⟩ = some (.int .u8 x) ∧ (0 ≤ x ∧ x ≤ 255)
theorem Bytes.below {w w' : World} {ad : Option Addr} {len : Nat} (h : Bytes w ad len) (k : Below w.heap.size w w') : Bytes w' ad len := fun i hi => by
  obtain ⟨b, off, x, h1, h2, h3, h4⟩ := h i hi
  exact ⟨b, off, x, h1, Nat.lt_of_lt_of_le h2 k.size, (k.cell (p := ⟨b, _, none⟩) h2).trans h3, h4⟩

/-- Two buffers. -/
structure Two (w : World) (X Y n : Nat) (lx ly : List Wk) : Prop where
  x : AtB w X n lx
  y : AtB w Y n ly
  ne : X ≠ Y
theorem Two.below {w w' : World} {X Y n : Nat} {lx ly : List Wk} (h : Two w X Y n lx ly) (k : Below w.heap.size w w') : Two w' X Y n lx ly := ⟨h.x.below k, h.y.below k, h.ne⟩
theorem Two.setX {w w' : World} {X Y n : Nat} {lx lx' ly : List Wk} (h : Two w X Y n lx ly) (k : Now X n lx' w w') : Two w' X Y n lx' ly := ⟨k.1, h.y.same (k.2.block Y h.y.lt h.ne.symm), h.ne⟩
theorem Two.setY {w w' : World} {X Y n : Nat} {lx ly ly' : List Wk} (h : Two w X Y n lx ly) (k : Now Y n ly' w w') : Two w' X Y n lx ly' := ⟨h.x.same (k.2.block X h.x.lt h.ne), k.1, h.ne⟩

/-- A buffer, and a row of wake-ups that the law gathers. -/
structure Row1 (w : World) (base B n : Nat) (v : Value) (l d : List Wk) : Prop where
  b : AtB w B n l
  r : w.ownsRow base 31 2 v d.length (cW d)
theorem owns_belowW {w w' : World} {base e size m : Nat} {v : Value} {xs : List Value} (h : w.ownsRow base e size v m xs) (k : Below w.heap.size w w') : w'.ownsRow base e size v m xs := owns_keep h fun g hg => k.block g (h.lt g hg).2
theorem owns_turnB {w w' : World} {base B n m : Nat} {l : List Wk} {v : Value} {xs : List Value} (hB : AtB w B n l) (h : w.ownsRow base 31 2 v m xs) (k : Turn B w w') : w'.ownsRow base 31 2 v m xs := owns_keep h fun g hg => k.block g (h.lt g hg).2 (fun e => by
  obtain ⟨cs, h1, _⟩ := hB.box
  exact owns_far h h1 (by decide) (by rw [hg, e]))
theorem Row1.below {w w' : World} {base B n : Nat} {v : Value} {l d : List Wk} (h : Row1 w base B n v l d) (k : Below w.heap.size w w') : Row1 w' base B n v l d := ⟨h.b.below k, owns_belowW h.r k⟩
theorem Row1.now {w w' : World} {base B n : Nat} {v : Value} {l l' d : List Wk} (h : Row1 w base B n v l d) (k : Now B n l' w w') : Row1 w' base B n v l' d := ⟨k.1, owns_turnB h.b h.r k.2⟩

end Go.Proofs.Ytiookbmffdmdeaa
