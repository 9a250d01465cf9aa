/-
  Lists of acts and of numbers that are handed in, as they lie in memory.
-/
import Derived.Test.YtkjiompjfolipaaBase
namespace Go.Proofs.Ytkjiompjfolipaa
open Go.RowKit

def Acts (w : World) (ad : Option Addr) (len : Nat) : Prop := ∀ i, i < len → ∃ b off, ∃ (r : Bool) (v : Int), ad = some ⟨b, off, none⟩ ∧ b < w.heap.size ∧ w.cell? ⟨b, off + i * 2, none⟩ = some (.bool r) ∧ w.cell? ⟨b, off + i * 2 + 1, none⟩ = some (.int .i64 v)
theorem Acts.below {w w' : World} {ad : Option Addr} {len : Nat} (h : Acts w ad len) (k : Below w.heap.size w w') : Acts w' ad len := fun i hi => by
  obtain ⟨b, off, r, v, h1, h2, h3, h4⟩ := h i hi
  exact ⟨b, off, r, v, h1, Nat.lt_of_lt_of_le h2 k.size, (k.cell (p := ⟨b, _, none⟩) h2).trans h3, (k.cell (p := ⟨b, _, none⟩) h2).trans h4⟩
def Ints (w : World) (ad : Option Addr) (len : Nat) : Prop := ∀ i, i < len → ∃ b off, ∃ v : Int, ad = some ⟨b, off, none⟩ ∧ b < w.heap.size ∧ w.cell? ⟨b, off + i, none⟩ = some (.int .i64 v)

end Go.Proofs.Ytkjiompjfolipaa
