/-
  No cell of these rows narrows 'for every input' (looked for: loops, veiled, ifaces, maps, wideKeys, modest, calm, conditions, laid).
  DERIVED. THE GIVEN ROWS OF THIS SEAT. 5 by the template 'for every input the law returns true; each argument reads behind the call as it read before'; 0 by the template 'total and deterministic' (their statements: YtggfndokmdpaeaaTotals.lean).
  GIVEN WITH THE SEED: the statements are not yours to turn. If you find one false, say at which input.
  Laid BY PROGRAM, IN A SANDBOX (cutbox-rows.mjs): the forced cells as the released guide's own fill.sh prints them over the translation 8cdf83265e805f45… (all of the seat's roots in one cut). By AI agents, Wed Nov 11 2026. No macro, syntax, notation, axiom, sorry.
-/
import Derived.Test.YtggfndokmdpaeaaChecked
import GoSem.Claim
import GoSem.ClaimJoined
import GoSem.ClaimMapViews
import Derived.JoinedTies
import Derived.KernelRfl
namespace Go.Proofs.Ytggfndokmdpaeaa
/- THE CELL 'sum', in the pinned program and in every row, IS THE sha256 OF THE DUMP (.gsa) THAT YtggfndokmdpaeaaProg.lean LOADS. Nothing in Lean hashes anything: it is a label: what it is worth is what the hold of that sum in a sandbox is worth. -/
noncomputable def Try.pinned : Pinned := { name := "ytggfndokmdpaeaa", sum := "8cdf83265e805f45a7b27bfce2eae29e1fd124c1d85db879ffb1cf18c1e4a42a", checked := Try.checked }
namespace Rows
def none {H : Type} : Left H := { results := [], args := [] }

/-- 'parcloselaw12.RwPlays': WHATEVER THE INPUT: true; the input reads as it did. -/
def rwPlaysSpec : ChangeSpec := { name := "rwPlays", fn := fun _ => fun
  | [d] => { results := [.lit (.bool true)], args := [d] }
  | _ => none }
def rwPlaysRow : OpenClaim := { program := "ytggfndokmdpaeaa", sum := "8cdf83265e805f45a7b27bfce2eae29e1fd124c1d85db879ffb1cf18c1e4a42a", func := "parclose/parcloselaw12.RwPlays", spec := "rwPlays", apart := false }
def RwPlaysSaid : Prop := rwPlaysRow.holds Try.pinned (OpenSpec.ofChange rwPlaysSpec)

/-- ITS FALSE NEIGHBOUR: 'it returns false'. Refute it at one input. -/
def rwPlaysWrong : ChangeSpec := { name := "rwPlays", fn := fun _ => fun
  | [d] => { results := [.lit (.bool false)], args := [d] }
  | _ => none }
def RwPlaysWrongFalsely : Prop := rwPlaysRow.holds Try.pinned (OpenSpec.ofChange rwPlaysWrong)

/-- 'parcloselaw12.RwAlone': WHATEVER THE INPUT: true; the input reads as it did. -/
def rwAloneSpec : ChangeSpec := { name := "rwAlone", fn := fun _ => fun
  | [d] => { results := [.lit (.bool true)], args := [d] }
  | _ => none }
def rwAloneRow : OpenClaim := { program := "ytggfndokmdpaeaa", sum := "8cdf83265e805f45a7b27bfce2eae29e1fd124c1d85db879ffb1cf18c1e4a42a", func := "parclose/parcloselaw12.RwAlone", spec := "rwAlone", apart := false }
def RwAloneSaid : Prop := rwAloneRow.holds Try.pinned (OpenSpec.ofChange rwAloneSpec)

/-- ITS FALSE NEIGHBOUR: 'it returns false'. Refute it at one input. -/
def rwAloneWrong : ChangeSpec := { name := "rwAlone", fn := fun _ => fun
  | [d] => { results := [.lit (.bool false)], args := [d] }
  | _ => none }
def RwAloneWrongFalsely : Prop := rwAloneRow.holds Try.pinned (OpenSpec.ofChange rwAloneWrong)

/-- 'parcloselaw12.RwFirst': WHATEVER THE INPUT: true; the input reads as it did. -/
def rwFirstSpec : ChangeSpec := { name := "rwFirst", fn := fun _ => fun
  | [d1, d2, d3] => { results := [.lit (.bool true)], args := [d1, d2, d3] }
  | _ => none }
def rwFirstRow : OpenClaim := { program := "ytggfndokmdpaeaa", sum := "8cdf83265e805f45a7b27bfce2eae29e1fd124c1d85db879ffb1cf18c1e4a42a", func := "parclose/parcloselaw12.RwFirst", spec := "rwFirst", apart := false }
def RwFirstSaid : Prop := rwFirstRow.holds Try.pinned (OpenSpec.ofChange rwFirstSpec)

/-- ITS FALSE NEIGHBOUR: 'it returns false'. Refute it at one input. -/
def rwFirstWrong : ChangeSpec := { name := "rwFirst", fn := fun _ => fun
  | [d1, d2, d3] => { results := [.lit (.bool false)], args := [d1, d2, d3] }
  | _ => none }
def RwFirstWrongFalsely : Prop := rwFirstRow.holds Try.pinned (OpenSpec.ofChange rwFirstWrong)

/-- 'parcloselaw12.RwDrops': WHATEVER THE INPUT: true; the input reads as it did. -/
def rwDropsSpec : ChangeSpec := { name := "rwDrops", fn := fun _ => fun
  | [d] => { results := [.lit (.bool true)], args := [d] }
  | _ => none }
def rwDropsRow : OpenClaim := { program := "ytggfndokmdpaeaa", sum := "8cdf83265e805f45a7b27bfce2eae29e1fd124c1d85db879ffb1cf18c1e4a42a", func := "parclose/parcloselaw12.RwDrops", spec := "rwDrops", apart := false }
def RwDropsSaid : Prop := rwDropsRow.holds Try.pinned (OpenSpec.ofChange rwDropsSpec)

/-- ITS FALSE NEIGHBOUR: 'it returns false'. Refute it at one input. -/
def rwDropsWrong : ChangeSpec := { name := "rwDrops", fn := fun _ => fun
  | [d] => { results := [.lit (.bool false)], args := [d] }
  | _ => none }
def RwDropsWrongFalsely : Prop := rwDropsRow.holds Try.pinned (OpenSpec.ofChange rwDropsWrong)

/-- 'parcloselaw12.RwNone': WHATEVER THE INPUT: true; the input reads as it did. -/
def rwNoneSpec : ChangeSpec := { name := "rwNone", fn := fun _ => fun
  | [d] => { results := [.lit (.bool true)], args := [d] }
  | _ => none }
def rwNoneRow : OpenClaim := { program := "ytggfndokmdpaeaa", sum := "8cdf83265e805f45a7b27bfce2eae29e1fd124c1d85db879ffb1cf18c1e4a42a", func := "parclose/parcloselaw12.RwNone", spec := "rwNone", apart := false }
def RwNoneSaid : Prop := rwNoneRow.holds Try.pinned (OpenSpec.ofChange rwNoneSpec)

/-- ITS FALSE NEIGHBOUR: 'it returns false'. Refute it at one input. -/
def rwNoneWrong : ChangeSpec := { name := "rwNone", fn := fun _ => fun
  | [d] => { results := [.lit (.bool false)], args := [d] }
  | _ => none }
def RwNoneWrongFalsely : Prop := rwNoneRow.holds Try.pinned (OpenSpec.ofChange rwNoneWrong)

/- THE SECOND FORM. 'bulk': how many values and letters a reading holds, each counted each time it is reached (what is shared counts as often as it is met; a slice's spare places count too). A statement '..UptoSaid' is the law's where the arguments, and the package variables that the reading takes, are together of bulk at most 1048576: NARROWER than '..Said'. Prove '..Said' where nothing that the law and all that it calls make is longer than what came in: it says more and counts as full. Else prove '..UptoSaid'. A law counts once. -/
mutual
def uptoBulk {H : Type} : DataW H → Nat
  | .lit (.string bytes) => bytes.length + 1
  | .lit _ => 1
  | .nil => 1
  | .ptr d => uptoBulk d + 1
  | .slice elems spare => uptoBulkAll elems + uptoBulkAll spare + 1
  | .agg parts => uptoBulkAll parts + 1
  | .iface _ d => uptoBulk d + 1
  | .map entries => uptoBulkEntries entries + 1
  | .held _ => 1
def uptoBulkAll {H : Type} : List (DataW H) → Nat
  | [] => 0
  | d :: r => uptoBulk d + uptoBulkAll r
def uptoBulkEntries {H : Type} : List (Lit × DataW H) → Nat
  | [] => 0
  | x :: r => uptoBulkEntry x + uptoBulkEntries r
def uptoBulkEntry {H : Type} : Lit × DataW H → Nat
  | (.string bytes, d) => bytes.length + uptoBulk d + 1
  | (_, d) => uptoBulk d + 1
 end
def uptoSmall : (H : Type) → List (DataW H) → Bool := fun _ ds => decide (uptoBulkAll ds ≤ 1048576)
def OpenSpec.upto (s : _root_.Go.ChangeSpec) : _root_.Go.OpenSpec := { _root_.Go.OpenSpec.ofChange s with cond := some uptoSmall }

/-- 'parcloselaw12.RwPlays', WHERE WHAT IT READS IS OF BULK AT MOST 1048576: true; the input reads as it did. -/
def rwPlaysUptoRow : OpenClaim := { program := "ytggfndokmdpaeaa", sum := "8cdf83265e805f45a7b27bfce2eae29e1fd124c1d85db879ffb1cf18c1e4a42a", func := "parclose/parcloselaw12.RwPlays", spec := "rwPlays", apart := false, narrowed := true }
def RwPlaysUptoSaid : Prop := rwPlaysUptoRow.holds Try.pinned (OpenSpec.upto rwPlaysSpec)

/-- 'parcloselaw12.RwAlone', WHERE WHAT IT READS IS OF BULK AT MOST 1048576: true; the input reads as it did. -/
def rwAloneUptoRow : OpenClaim := { program := "ytggfndokmdpaeaa", sum := "8cdf83265e805f45a7b27bfce2eae29e1fd124c1d85db879ffb1cf18c1e4a42a", func := "parclose/parcloselaw12.RwAlone", spec := "rwAlone", apart := false, narrowed := true }
def RwAloneUptoSaid : Prop := rwAloneUptoRow.holds Try.pinned (OpenSpec.upto rwAloneSpec)

/-- 'parcloselaw12.RwFirst', WHERE WHAT IT READS IS OF BULK AT MOST 1048576: true; the input reads as it did. -/
def rwFirstUptoRow : OpenClaim := { program := "ytggfndokmdpaeaa", sum := "8cdf83265e805f45a7b27bfce2eae29e1fd124c1d85db879ffb1cf18c1e4a42a", func := "parclose/parcloselaw12.RwFirst", spec := "rwFirst", apart := false, narrowed := true }
def RwFirstUptoSaid : Prop := rwFirstUptoRow.holds Try.pinned (OpenSpec.upto rwFirstSpec)

/-- 'parcloselaw12.RwDrops', WHERE WHAT IT READS IS OF BULK AT MOST 1048576: true; the input reads as it did. -/
def rwDropsUptoRow : OpenClaim := { program := "ytggfndokmdpaeaa", sum := "8cdf83265e805f45a7b27bfce2eae29e1fd124c1d85db879ffb1cf18c1e4a42a", func := "parclose/parcloselaw12.RwDrops", spec := "rwDrops", apart := false, narrowed := true }
def RwDropsUptoSaid : Prop := rwDropsUptoRow.holds Try.pinned (OpenSpec.upto rwDropsSpec)

/-- 'parcloselaw12.RwNone', WHERE WHAT IT READS IS OF BULK AT MOST 1048576: true; the input reads as it did. -/
def rwNoneUptoRow : OpenClaim := { program := "ytggfndokmdpaeaa", sum := "8cdf83265e805f45a7b27bfce2eae29e1fd124c1d85db879ffb1cf18c1e4a42a", func := "parclose/parcloselaw12.RwNone", spec := "rwNone", apart := false, narrowed := true }
def RwNoneUptoSaid : Prop := rwNoneUptoRow.holds Try.pinned (OpenSpec.upto rwNoneSpec)

end Rows
end Go.Proofs.Ytggfndokmdpaeaa
