/-
  DERIVED. GIVEN WITH THE SEED: THE CARDS: each row of YtjibbnknliamkaaGreatDoorRows.lean that lists a variable, with what it lists TIED to the program's text (the seventh form; the later family's looks); each row that meets fmt, with fmt's text TOLD by the authors' own Lean function (tested against real Go, not proved from fmt's source: count such statements apart). THE CARD IS WHAT COUNTS. Prove the row's statement (the work); the ties are given (YtjibbnknliamkaaGreatDoorTie.lean); close each card by the builder's one call (the guide's Derived/Test/ToyasCard.lean, 'card_holds'). Laid BY PROGRAM, IN A SANDBOX (cutbox-door.mjs). By AI agents, Wed Nov 11 2026. No macro, syntax, notation, axiom, sorry.
-/
import Derived.Test.YtjibbnknliamkaaGreatDoorRows
import GoSem.ClaimSeven
namespace Go.Proofs.YtjibbnknliamkaaGreatDoor
namespace Rows

/-- THE TIED CARD OF 'sketchstorelaw13.QueryValidates'. -/
def queryValidatesCard : Claim7 := { stood := { row := queryValidatesRow, standIns := [], harness := (true, "577f8b25ee2997e2bee452878d22084fe2cb5ad6b585f628363696c055af8bfc"), looks := false }, kinds := [], alts := [], laidByText := true, laidKinds := [.data, .data], laidTests := true, laidLooks := .later }
def QueryValidatesCardSaid : Prop := Claim7.holds Tryz.pinned (.plain (OpenSpec.ofChange queryValidatesSpec)) queryValidatesCard

/-- THE TIED CARD OF 'sketchstorelaw13.QueryAnswers'. -/
def queryAnswersCard : Claim7 := { stood := { row := queryAnswersRow, standIns := [], harness := (true, "577f8b25ee2997e2bee452878d22084fe2cb5ad6b585f628363696c055af8bfc"), looks := false }, kinds := [], alts := [], laidByText := true, laidKinds := [.data, .data], laidTests := true, laidLooks := .later }
def QueryAnswersCardSaid : Prop := Claim7.holds Tryz.pinned (.plain (OpenSpec.ofChange queryAnswersSpec)) queryAnswersCard

/-- THE TIED CARD OF 'sketchstorelaw13.QueryEntries'. -/
def queryEntriesCard : Claim7 := { stood := { row := queryEntriesRow, standIns := [], harness := (true, "577f8b25ee2997e2bee452878d22084fe2cb5ad6b585f628363696c055af8bfc"), looks := false }, kinds := [], alts := [], laidByText := true, laidKinds := [.data, .data], laidTests := true, laidLooks := .later }
def QueryEntriesCardSaid : Prop := Claim7.holds Tryz.pinned (.plain (OpenSpec.ofChange queryEntriesSpec)) queryEntriesCard

/-- THE TIED CARD OF 'sketchstorelaw13.QueryPages'. -/
def queryPagesCard : Claim7 := { stood := { row := queryPagesRow, standIns := [], harness := (true, "577f8b25ee2997e2bee452878d22084fe2cb5ad6b585f628363696c055af8bfc"), looks := false }, kinds := [], alts := [], laidByText := true, laidKinds := [.data, .data], laidTests := true, laidLooks := .later }
def QueryPagesCardSaid : Prop := Claim7.holds Tryz.pinned (.plain (OpenSpec.ofChange queryPagesSpec)) queryPagesCard

/-- THE TIED CARD OF 'sketchstorelaw13.QueryPoints'. -/
def queryPointsCard : Claim7 := { stood := { row := queryPointsRow, standIns := [], harness := (true, "577f8b25ee2997e2bee452878d22084fe2cb5ad6b585f628363696c055af8bfc"), looks := false }, kinds := [], alts := [], laidByText := true, laidKinds := [.data, .data], laidTests := true, laidLooks := .later }
def QueryPointsCardSaid : Prop := Claim7.holds Tryz.pinned (.plain (OpenSpec.ofChange queryPointsSpec)) queryPointsCard

/-- THE TIED CARD OF 'sketchstorelaw13.QuerySupports'. -/
def querySupportsCard : Claim7 := { stood := { row := querySupportsRow, standIns := [], harness := (true, "577f8b25ee2997e2bee452878d22084fe2cb5ad6b585f628363696c055af8bfc"), looks := false }, kinds := [], alts := [], laidByText := true, laidKinds := [.data, .data], laidTests := true, laidLooks := .later }
def QuerySupportsCardSaid : Prop := Claim7.holds Tryz.pinned (.plain (OpenSpec.ofChange querySupportsSpec)) querySupportsCard

/-- THE SECOND FORM's CARD OF 'sketchstorelaw13.QueryValidates'. -/
def queryValidatesUptoCard : Claim7 := { stood := { row := queryValidatesUptoRow, standIns := [], harness := (true, "577f8b25ee2997e2bee452878d22084fe2cb5ad6b585f628363696c055af8bfc"), looks := false }, kinds := [], alts := [], laidByText := true, laidKinds := [.data, .data], laidTests := true, laidLooks := .later }
def QueryValidatesUptoCardSaid : Prop := Claim7.holds Tryz.pinned (.plain (OpenSpec.upto queryValidatesSpec)) queryValidatesUptoCard

/-- THE SECOND FORM's CARD OF 'sketchstorelaw13.QueryAnswers'. -/
def queryAnswersUptoCard : Claim7 := { stood := { row := queryAnswersUptoRow, standIns := [], harness := (true, "577f8b25ee2997e2bee452878d22084fe2cb5ad6b585f628363696c055af8bfc"), looks := false }, kinds := [], alts := [], laidByText := true, laidKinds := [.data, .data], laidTests := true, laidLooks := .later }
def QueryAnswersUptoCardSaid : Prop := Claim7.holds Tryz.pinned (.plain (OpenSpec.upto queryAnswersSpec)) queryAnswersUptoCard

/-- THE SECOND FORM's CARD OF 'sketchstorelaw13.QueryEntries'. -/
def queryEntriesUptoCard : Claim7 := { stood := { row := queryEntriesUptoRow, standIns := [], harness := (true, "577f8b25ee2997e2bee452878d22084fe2cb5ad6b585f628363696c055af8bfc"), looks := false }, kinds := [], alts := [], laidByText := true, laidKinds := [.data, .data], laidTests := true, laidLooks := .later }
def QueryEntriesUptoCardSaid : Prop := Claim7.holds Tryz.pinned (.plain (OpenSpec.upto queryEntriesSpec)) queryEntriesUptoCard

/-- THE SECOND FORM's CARD OF 'sketchstorelaw13.QueryPages'. -/
def queryPagesUptoCard : Claim7 := { stood := { row := queryPagesUptoRow, standIns := [], harness := (true, "577f8b25ee2997e2bee452878d22084fe2cb5ad6b585f628363696c055af8bfc"), looks := false }, kinds := [], alts := [], laidByText := true, laidKinds := [.data, .data], laidTests := true, laidLooks := .later }
def QueryPagesUptoCardSaid : Prop := Claim7.holds Tryz.pinned (.plain (OpenSpec.upto queryPagesSpec)) queryPagesUptoCard

/-- THE SECOND FORM's CARD OF 'sketchstorelaw13.QueryPoints'. -/
def queryPointsUptoCard : Claim7 := { stood := { row := queryPointsUptoRow, standIns := [], harness := (true, "577f8b25ee2997e2bee452878d22084fe2cb5ad6b585f628363696c055af8bfc"), looks := false }, kinds := [], alts := [], laidByText := true, laidKinds := [.data, .data], laidTests := true, laidLooks := .later }
def QueryPointsUptoCardSaid : Prop := Claim7.holds Tryz.pinned (.plain (OpenSpec.upto queryPointsSpec)) queryPointsUptoCard

/-- THE SECOND FORM's CARD OF 'sketchstorelaw13.QuerySupports'. -/
def querySupportsUptoCard : Claim7 := { stood := { row := querySupportsUptoRow, standIns := [], harness := (true, "577f8b25ee2997e2bee452878d22084fe2cb5ad6b585f628363696c055af8bfc"), looks := false }, kinds := [], alts := [], laidByText := true, laidKinds := [.data, .data], laidTests := true, laidLooks := .later }
def QuerySupportsUptoCardSaid : Prop := Claim7.holds Tryz.pinned (.plain (OpenSpec.upto querySupportsSpec)) querySupportsUptoCard
end Rows
end Go.Proofs.YtjibbnknliamkaaGreatDoor
