/-
  Lists of acts that are handed in, as they lie in memory.
-/
import Derived.Test.YtgfkleaekaggoaaBase
namespace Go.Proofs.Ytgfkleaekaggoaa
open Go.RowKit

def Acts (w : World) (ad : Option Addr) (len : Nat) : Prop := ∀ i, i < len → ∃ b off, ∃ d x y : Int, ad = some ⟨b, off, none⟩ ∧ b < w.heap.size ∧ w.cell? ⟨b, off + i * 3, none⟩ = some (.int .u8 d) ∧ w.cell? ⟨b, off + i * 3 + 1, none⟩ = some (.int .i64 x) ∧ w.cell? ⟨b, off + i * 3 + 2, none⟩ = some (.int .i64 y) ∧ (0 ≤ d ∧ d ≤ 255) ∧ (-9223372036854775808 ≤ x ∧ x ≤ 9223372036854775807) ∧ (-9223372036854775808 ≤ y ∧ y ≤ 9223372036854775807)
theorem Acts.below {w w' : World} {ad : Option Addr} {len : Nat} (h : Acts w ad len) (k : Below w.heap.size w w') : Acts w' ad len := fun i hi => by
  obtain ⟨b, off, d, x, y, h1, h2, h3, h4, h6, h5⟩ := h i hi
  exact ⟨b, off, d, x, y, h1, Nat.lt_of_lt_of_le h2 k.size, (k.cell (p := ⟨b, _, none⟩) h2).trans h3, (k.cell (p := ⟨b, _, none⟩) h2).trans h4, (k.cell (p := ⟨b, _, none⟩) h2).trans h6, h5⟩

end Go.Proofs.Ytgfkleaekaggoaa
