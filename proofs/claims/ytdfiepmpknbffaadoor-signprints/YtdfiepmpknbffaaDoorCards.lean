/-
  DERIVED. GIVEN WITH THE SEED: THE CARDS: each row of YtdfiepmpknbffaaDoorRows.lean that lists a variable, with what it lists TIED to the program's text (the seventh form; the later family's looks); each row that meets fmt, with fmt's text TOLD by the authors' own Lean function (tested against real Go, not proved from fmt's source: count such statements apart). THE CARD IS WHAT COUNTS. Prove the row's statement (the work); the ties are given (YtdfiepmpknbffaaDoorTie.lean); close each card by the builder's one call (the guide's Derived/Test/ToyasCard.lean, 'card_holds'). Laid BY PROGRAM, IN A SANDBOX (cutbox-door.mjs). By AI agents, Wed Nov 11 2026. No macro, syntax, notation, axiom, sorry.
-/
import Derived.Test.YtdfiepmpknbffaaDoorRows
import GoSem.ClaimSeven
namespace Go.Proofs.YtdfiepmpknbffaaDoor
namespace Rows

/-- THE TIED CARD OF 'parcloselaw02.SignReads'. -/
def signReadsCard : Claim7 := { stood := { row := signReadsRow, standIns := [], harness := (true, "934c6e43723a61a9efbc7573d8cb37a431ceec1e5c996fca576ac74ebb28ea44"), looks := false }, kinds := [], alts := [], laidByText := true, laidKinds := [.data, .data, .data], laidTests := true, laidLooks := .later }
def SignReadsCardSaid : Prop := Claim7.holds Tryd.pinned (.plain (OpenSpec.ofChange signReadsSpec)) signReadsCard

/-- THE TIED CARD OF 'parcloselaw02.SignPrints'. -/
def signPrintsCard : Claim7 := { stood := { row := signPrintsRow, standIns := [], harness := (true, "934c6e43723a61a9efbc7573d8cb37a431ceec1e5c996fca576ac74ebb28ea44"), looks := false }, kinds := [], alts := [], laidByText := true, laidKinds := [.data, .data, .data], laidTests := true, laidLooks := .later }
def SignPrintsCardSaid : Prop := Claim7.holds Tryd.pinned (.plain (OpenSpec.ofChange signPrintsSpec)) signPrintsCard

/-- THE TIED CARD OF 'parcloselaw02.SignBack'. -/
def signBackCard : Claim7 := { stood := { row := signBackRow, standIns := [], harness := (true, "934c6e43723a61a9efbc7573d8cb37a431ceec1e5c996fca576ac74ebb28ea44"), looks := false }, kinds := [], alts := [], laidByText := true, laidKinds := [.data, .data, .data], laidTests := true, laidLooks := .later }
def SignBackCardSaid : Prop := Claim7.holds Tryd.pinned (.plain (OpenSpec.ofChange signBackSpec)) signBackCard

/-- THE TIED CARD OF 'parcloselaw02.SignUnlike'. -/
def signUnlikeCard : Claim7 := { stood := { row := signUnlikeRow, standIns := [], harness := (true, "934c6e43723a61a9efbc7573d8cb37a431ceec1e5c996fca576ac74ebb28ea44"), looks := false }, kinds := [], alts := [], laidByText := true, laidKinds := [.data, .data, .data], laidTests := true, laidLooks := .later }
def SignUnlikeCardSaid : Prop := Claim7.holds Tryd.pinned (.plain (OpenSpec.ofChange signUnlikeSpec)) signUnlikeCard

/-- THE TIED CARD OF 'parcloselaw02.SignNames'. -/
def signNamesCard : Claim7 := { stood := { row := signNamesRow, standIns := [], harness := (true, "934c6e43723a61a9efbc7573d8cb37a431ceec1e5c996fca576ac74ebb28ea44"), looks := false }, kinds := [], alts := [], laidByText := true, laidKinds := [.data, .data, .data], laidTests := true, laidLooks := .later }
def SignNamesCardSaid : Prop := Claim7.holds Tryd.pinned (.plain (OpenSpec.ofChange signNamesSpec)) signNamesCard

/-- THE TIED CARD OF 'parcloselaw02.SignCats'. -/
def signCatsCard : Claim7 := { stood := { row := signCatsRow, standIns := [], harness := (true, "934c6e43723a61a9efbc7573d8cb37a431ceec1e5c996fca576ac74ebb28ea44"), looks := false }, kinds := [], alts := [], laidByText := true, laidKinds := [.data, .data, .data], laidTests := true, laidLooks := .later }
def SignCatsCardSaid : Prop := Claim7.holds Tryd.pinned (.plain (OpenSpec.ofChange signCatsSpec)) signCatsCard

/-- THE SECOND FORM's CARD OF 'parcloselaw02.SignReads'. -/
def signReadsUptoCard : Claim7 := { stood := { row := signReadsUptoRow, standIns := [], harness := (true, "934c6e43723a61a9efbc7573d8cb37a431ceec1e5c996fca576ac74ebb28ea44"), looks := false }, kinds := [], alts := [], laidByText := true, laidKinds := [.data, .data, .data], laidTests := true, laidLooks := .later }
def SignReadsUptoCardSaid : Prop := Claim7.holds Tryd.pinned (.plain (OpenSpec.upto signReadsSpec)) signReadsUptoCard

/-- THE SECOND FORM's CARD OF 'parcloselaw02.SignPrints'. -/
def signPrintsUptoCard : Claim7 := { stood := { row := signPrintsUptoRow, standIns := [], harness := (true, "934c6e43723a61a9efbc7573d8cb37a431ceec1e5c996fca576ac74ebb28ea44"), looks := false }, kinds := [], alts := [], laidByText := true, laidKinds := [.data, .data, .data], laidTests := true, laidLooks := .later }
def SignPrintsUptoCardSaid : Prop := Claim7.holds Tryd.pinned (.plain (OpenSpec.upto signPrintsSpec)) signPrintsUptoCard

/-- THE SECOND FORM's CARD OF 'parcloselaw02.SignBack'. -/
def signBackUptoCard : Claim7 := { stood := { row := signBackUptoRow, standIns := [], harness := (true, "934c6e43723a61a9efbc7573d8cb37a431ceec1e5c996fca576ac74ebb28ea44"), looks := false }, kinds := [], alts := [], laidByText := true, laidKinds := [.data, .data, .data], laidTests := true, laidLooks := .later }
def SignBackUptoCardSaid : Prop := Claim7.holds Tryd.pinned (.plain (OpenSpec.upto signBackSpec)) signBackUptoCard

/-- THE SECOND FORM's CARD OF 'parcloselaw02.SignUnlike'. -/
def signUnlikeUptoCard : Claim7 := { stood := { row := signUnlikeUptoRow, standIns := [], harness := (true, "934c6e43723a61a9efbc7573d8cb37a431ceec1e5c996fca576ac74ebb28ea44"), looks := false }, kinds := [], alts := [], laidByText := true, laidKinds := [.data, .data, .data], laidTests := true, laidLooks := .later }
def SignUnlikeUptoCardSaid : Prop := Claim7.holds Tryd.pinned (.plain (OpenSpec.upto signUnlikeSpec)) signUnlikeUptoCard

/-- THE SECOND FORM's CARD OF 'parcloselaw02.SignNames'. -/
def signNamesUptoCard : Claim7 := { stood := { row := signNamesUptoRow, standIns := [], harness := (true, "934c6e43723a61a9efbc7573d8cb37a431ceec1e5c996fca576ac74ebb28ea44"), looks := false }, kinds := [], alts := [], laidByText := true, laidKinds := [.data, .data, .data], laidTests := true, laidLooks := .later }
def SignNamesUptoCardSaid : Prop := Claim7.holds Tryd.pinned (.plain (OpenSpec.upto signNamesSpec)) signNamesUptoCard

/-- THE SECOND FORM's CARD OF 'parcloselaw02.SignCats'. -/
def signCatsUptoCard : Claim7 := { stood := { row := signCatsUptoRow, standIns := [], harness := (true, "934c6e43723a61a9efbc7573d8cb37a431ceec1e5c996fca576ac74ebb28ea44"), looks := false }, kinds := [], alts := [], laidByText := true, laidKinds := [.data, .data, .data], laidTests := true, laidLooks := .later }
def SignCatsUptoCardSaid : Prop := Claim7.holds Tryd.pinned (.plain (OpenSpec.upto signCatsSpec)) signCatsUptoCard
end Rows
end Go.Proofs.YtdfiepmpknbffaaDoor
