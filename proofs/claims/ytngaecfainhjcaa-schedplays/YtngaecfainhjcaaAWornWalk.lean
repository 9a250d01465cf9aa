/-
  The walk of the law ArenaWorn.
-/
import Derived.Test.YtngaecfainhjcaaAWorn
namespace Go.Proofs.Ytngaecfainhjcaa.A
open Go.RowKit

theorem hide {p : Prop} (h : p) : Hid p := h

end Go.Proofs.Ytngaecfainhjcaa.A
