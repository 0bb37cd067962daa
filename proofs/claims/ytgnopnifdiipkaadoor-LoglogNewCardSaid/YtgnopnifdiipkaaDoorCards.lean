/-
  DERIVED. GIVEN WITH THE SEED: THE CARDS: each row of YtgnopnifdiipkaaDoorRows.lean that lists a variable, with what it lists TIED to the program's text (the seventh form; the later family's looks); each row that meets fmt, with fmt's text TOLD by the authors' own Lean function (tested against real Go, not proved from fmt's source: count such statements apart). THE CARD IS WHAT COUNTS. Prove the row's statement (the work); the ties are given (YtgnopnifdiipkaaDoorTie.lean); close each card by the builder's one call (the guide's Derived/Test/ToyasCard.lean, 'card_holds'). Laid BY PROGRAM, IN A SANDBOX (cutbox-door.mjs). By AI agents, Wed Nov 11 2026. No macro, syntax, notation, axiom, sorry.
-/
import Derived.Test.YtgnopnifdiipkaaDoorRows
import GoSem.ClaimSeven
namespace Go.Proofs.YtgnopnifdiipkaaDoor
namespace Rows

/-- THE TIED CARD OF 'sketchstorelaw8.LoglogNew'. -/
def loglogNewCard : Claim7 := { stood := { row := loglogNewRow, standIns := [], harness := (true, "1ddbba2b868e8ae136b2e407ad84d16fd5c3179fbbb625cbbe260ab61146234d"), looks := false }, kinds := [], alts := [], laidByText := true, laidKinds := [.data], laidTests := true, laidLooks := .later }
def LoglogNewCardSaid : Prop := Claim7.holds Tryd.pinned (.plain (OpenSpec.ofChange loglogNewSpec)) loglogNewCard

/-- THE TIED CARD OF 'sketchstorelaw8.LoglogInserts'. -/
def loglogInsertsCard : Claim7 := { stood := { row := loglogInsertsRow, standIns := [], harness := (true, "1ddbba2b868e8ae136b2e407ad84d16fd5c3179fbbb625cbbe260ab61146234d"), looks := false }, kinds := [], alts := [], laidByText := true, laidKinds := [.data], laidTests := true, laidLooks := .later }
def LoglogInsertsCardSaid : Prop := Claim7.holds Tryd.pinned (.plain (OpenSpec.ofChange loglogInsertsSpec)) loglogInsertsCard

/-- THE TIED CARD OF 'sketchstorelaw8.LoglogMerges'. -/
def loglogMergesCard : Claim7 := { stood := { row := loglogMergesRow, standIns := [], harness := (true, "1ddbba2b868e8ae136b2e407ad84d16fd5c3179fbbb625cbbe260ab61146234d"), looks := false }, kinds := [], alts := [], laidByText := true, laidKinds := [.data], laidTests := true, laidLooks := .later }
def LoglogMergesCardSaid : Prop := Claim7.holds Tryd.pinned (.plain (OpenSpec.ofChange loglogMergesSpec)) loglogMergesCard

/-- THE TIED CARD OF 'sketchstorelaw8.LoglogEstimates'. -/
def loglogEstimatesCard : Claim7 := { stood := { row := loglogEstimatesRow, standIns := [], harness := (true, "1ddbba2b868e8ae136b2e407ad84d16fd5c3179fbbb625cbbe260ab61146234d"), looks := false }, kinds := [], alts := [], laidByText := true, laidKinds := [.data], laidTests := true, laidLooks := .later }
def LoglogEstimatesCardSaid : Prop := Claim7.holds Tryd.pinned (.plain (OpenSpec.ofChange loglogEstimatesSpec)) loglogEstimatesCard

/-- THE TIED CARD OF 'sketchstorelaw8.LoglogCodes'. -/
def loglogCodesCard : Claim7 := { stood := { row := loglogCodesRow, standIns := [], harness := (true, "1ddbba2b868e8ae136b2e407ad84d16fd5c3179fbbb625cbbe260ab61146234d"), looks := false }, kinds := [], alts := [], laidByText := true, laidKinds := [.data], laidTests := true, laidLooks := .later }
def LoglogCodesCardSaid : Prop := Claim7.holds Tryd.pinned (.plain (OpenSpec.ofChange loglogCodesSpec)) loglogCodesCard

/-- THE TIED CARD OF 'sketchstorelaw8.LoglogUnion'. -/
def loglogUnionCard : Claim7 := { stood := { row := loglogUnionRow, standIns := [], harness := (true, "1ddbba2b868e8ae136b2e407ad84d16fd5c3179fbbb625cbbe260ab61146234d"), looks := false }, kinds := [], alts := [], laidByText := true, laidKinds := [.data], laidTests := true, laidLooks := .later }
def LoglogUnionCardSaid : Prop := Claim7.holds Tryd.pinned (.plain (OpenSpec.ofChange loglogUnionSpec)) loglogUnionCard

/-- THE TIED CARD OF 'sketchstorelaw8.LoglogRegisters'. -/
def loglogRegistersCard : Claim7 := { stood := { row := loglogRegistersRow, standIns := [], harness := (true, "1ddbba2b868e8ae136b2e407ad84d16fd5c3179fbbb625cbbe260ab61146234d"), looks := false }, kinds := [], alts := [], laidByText := true, laidKinds := [.data], laidTests := true, laidLooks := .later }
def LoglogRegistersCardSaid : Prop := Claim7.holds Tryd.pinned (.plain (OpenSpec.ofChange loglogRegistersSpec)) loglogRegistersCard

/-- THE SECOND FORM's CARD OF 'sketchstorelaw8.LoglogNew'. -/
def loglogNewUptoCard : Claim7 := { stood := { row := loglogNewUptoRow, standIns := [], harness := (true, "1ddbba2b868e8ae136b2e407ad84d16fd5c3179fbbb625cbbe260ab61146234d"), looks := false }, kinds := [], alts := [], laidByText := true, laidKinds := [.data], laidTests := true, laidLooks := .later }
def LoglogNewUptoCardSaid : Prop := Claim7.holds Tryd.pinned (.plain (OpenSpec.upto loglogNewSpec)) loglogNewUptoCard

/-- THE SECOND FORM's CARD OF 'sketchstorelaw8.LoglogInserts'. -/
def loglogInsertsUptoCard : Claim7 := { stood := { row := loglogInsertsUptoRow, standIns := [], harness := (true, "1ddbba2b868e8ae136b2e407ad84d16fd5c3179fbbb625cbbe260ab61146234d"), looks := false }, kinds := [], alts := [], laidByText := true, laidKinds := [.data], laidTests := true, laidLooks := .later }
def LoglogInsertsUptoCardSaid : Prop := Claim7.holds Tryd.pinned (.plain (OpenSpec.upto loglogInsertsSpec)) loglogInsertsUptoCard

/-- THE SECOND FORM's CARD OF 'sketchstorelaw8.LoglogMerges'. -/
def loglogMergesUptoCard : Claim7 := { stood := { row := loglogMergesUptoRow, standIns := [], harness := (true, "1ddbba2b868e8ae136b2e407ad84d16fd5c3179fbbb625cbbe260ab61146234d"), looks := false }, kinds := [], alts := [], laidByText := true, laidKinds := [.data], laidTests := true, laidLooks := .later }
def LoglogMergesUptoCardSaid : Prop := Claim7.holds Tryd.pinned (.plain (OpenSpec.upto loglogMergesSpec)) loglogMergesUptoCard

/-- THE SECOND FORM's CARD OF 'sketchstorelaw8.LoglogEstimates'. -/
def loglogEstimatesUptoCard : Claim7 := { stood := { row := loglogEstimatesUptoRow, standIns := [], harness := (true, "1ddbba2b868e8ae136b2e407ad84d16fd5c3179fbbb625cbbe260ab61146234d"), looks := false }, kinds := [], alts := [], laidByText := true, laidKinds := [.data], laidTests := true, laidLooks := .later }
def LoglogEstimatesUptoCardSaid : Prop := Claim7.holds Tryd.pinned (.plain (OpenSpec.upto loglogEstimatesSpec)) loglogEstimatesUptoCard

/-- THE SECOND FORM's CARD OF 'sketchstorelaw8.LoglogCodes'. -/
def loglogCodesUptoCard : Claim7 := { stood := { row := loglogCodesUptoRow, standIns := [], harness := (true, "1ddbba2b868e8ae136b2e407ad84d16fd5c3179fbbb625cbbe260ab61146234d"), looks := false }, kinds := [], alts := [], laidByText := true, laidKinds := [.data], laidTests := true, laidLooks := .later }
def LoglogCodesUptoCardSaid : Prop := Claim7.holds Tryd.pinned (.plain (OpenSpec.upto loglogCodesSpec)) loglogCodesUptoCard

/-- THE SECOND FORM's CARD OF 'sketchstorelaw8.LoglogUnion'. -/
def loglogUnionUptoCard : Claim7 := { stood := { row := loglogUnionUptoRow, standIns := [], harness := (true, "1ddbba2b868e8ae136b2e407ad84d16fd5c3179fbbb625cbbe260ab61146234d"), looks := false }, kinds := [], alts := [], laidByText := true, laidKinds := [.data], laidTests := true, laidLooks := .later }
def LoglogUnionUptoCardSaid : Prop := Claim7.holds Tryd.pinned (.plain (OpenSpec.upto loglogUnionSpec)) loglogUnionUptoCard

/-- THE SECOND FORM's CARD OF 'sketchstorelaw8.LoglogRegisters'. -/
def loglogRegistersUptoCard : Claim7 := { stood := { row := loglogRegistersUptoRow, standIns := [], harness := (true, "1ddbba2b868e8ae136b2e407ad84d16fd5c3179fbbb625cbbe260ab61146234d"), looks := false }, kinds := [], alts := [], laidByText := true, laidKinds := [.data], laidTests := true, laidLooks := .later }
def LoglogRegistersUptoCardSaid : Prop := Claim7.holds Tryd.pinned (.plain (OpenSpec.upto loglogRegistersSpec)) loglogRegistersUptoCard
end Rows
end Go.Proofs.YtgnopnifdiipkaaDoor
