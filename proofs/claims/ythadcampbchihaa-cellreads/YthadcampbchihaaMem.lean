/-
  Lists of acts that are handed in, as they lie in memory.
-/
import Derived.Test.YthadcampbchihaaBase
namespace Go.Proofs.Ythadcampbchihaa
open Go.RowKit

def Acts (w : World) (ad : Option Addr) (len : Nat) : Prop := ∀ i, i < len → ∃ b off, ∃ d t x y : Int, ad = some ⟨b, off, none⟩ ∧ b < w.heap.size ∧ w.cell? ⟨b, off + i * 4, none⟩ = some (.int .u8 d) ∧ w.cell? ⟨b, off + i * 4 + 1, none⟩ = some (.int .i64 t) ∧ w.cell? ⟨b, off + i * 4 + 2, none⟩ = some (.int .i64 x) ∧ w.cell? ⟨b, off + i * 4 + 3, none⟩ = some (.int .i64 y) ∧ (0 ≤ d ∧ d ≤ 255)
theorem Acts.below {w w' : World} {ad : Option Addr} {len : Nat} (h : Acts w ad len) (k : Below w.heap.size w w') : Acts w' ad len := fun i hi => by
  obtain ⟨b, off, d, t, x, y, h1, h2, h3, h4, h5, h6, h7⟩ := h i hi
  exact ⟨b, off, d, t, x, y, h1, Nat.lt_of_lt_of_le h2 k.size, (k.cell (p := ⟨b, _, none⟩) h2).trans h3, (k.cell (p := ⟨b, _, none⟩) h2).trans h4, (k.cell (p := ⟨b, _, none⟩) h2).trans h5, (k.cell (p := ⟨b, _, none⟩) h2).trans h6, h7⟩

end Go.Proofs.Ythadcampbchihaa
