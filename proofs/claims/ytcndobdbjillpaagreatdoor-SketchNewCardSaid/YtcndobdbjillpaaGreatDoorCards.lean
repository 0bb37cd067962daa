/-
  DERIVED. GIVEN WITH THE SEED: THE CARDS: each row of YtcndobdbjillpaaGreatDoorRows.lean that lists a variable, with what it lists TIED to the program's text (the seventh form; the later family's looks); each row that meets fmt, with fmt's text TOLD by the authors' own Lean function (tested against real Go, not proved from fmt's source: count such statements apart). THE CARD IS WHAT COUNTS. Prove the row's statement (the work); the ties are given (YtcndobdbjillpaaGreatDoorTie.lean); close each card by the builder's one call (the guide's Derived/Test/ToyasCard.lean, 'card_holds'). Laid BY PROGRAM, IN A SANDBOX (cutbox-door.mjs). By AI agents, Wed Nov 11 2026. No macro, syntax, notation, axiom, sorry.
-/
import Derived.Test.YtcndobdbjillpaaGreatDoorRows
import GoSem.ClaimSeven
namespace Go.Proofs.YtcndobdbjillpaaGreatDoor
namespace Rows

/-- THE TIED CARD OF 'sketchstorelaw12.SketchNew'. -/
def sketchNewCard : Claim7 := { stood := { row := sketchNewRow, standIns := [], harness := (true, "ce98e678c9fca2ce64f8534b06f044745d62f9eabd52f269bb48538b869b4ba7"), looks := false }, kinds := [], alts := [], laidByText := true, laidKinds := [.data], laidTests := true, laidLooks := .later }
def SketchNewCardSaid : Prop := Claim7.holds Tryz.pinned (.plain (OpenSpec.ofChange sketchNewSpec)) sketchNewCard

/-- THE TIED CARD OF 'sketchstorelaw12.SketchLooks'. -/
def sketchLooksCard : Claim7 := { stood := { row := sketchLooksRow, standIns := [], harness := (true, "ce98e678c9fca2ce64f8534b06f044745d62f9eabd52f269bb48538b869b4ba7"), looks := false }, kinds := [], alts := [], laidByText := true, laidKinds := [.data], laidTests := true, laidLooks := .later }
def SketchLooksCardSaid : Prop := Claim7.holds Tryz.pinned (.plain (OpenSpec.ofChange sketchLooksSpec)) sketchLooksCard

/-- THE TIED CARD OF 'sketchstorelaw12.SketchInserts'. -/
def sketchInsertsCard : Claim7 := { stood := { row := sketchInsertsRow, standIns := [], harness := (true, "ce98e678c9fca2ce64f8534b06f044745d62f9eabd52f269bb48538b869b4ba7"), looks := false }, kinds := [], alts := [], laidByText := true, laidKinds := [.data], laidTests := true, laidLooks := .later }
def SketchInsertsCardSaid : Prop := Claim7.holds Tryz.pinned (.plain (OpenSpec.ofChange sketchInsertsSpec)) sketchInsertsCard

/-- THE TIED CARD OF 'sketchstorelaw12.SketchMerges'. -/
def sketchMergesCard : Claim7 := { stood := { row := sketchMergesRow, standIns := [], harness := (true, "ce98e678c9fca2ce64f8534b06f044745d62f9eabd52f269bb48538b869b4ba7"), looks := false }, kinds := [], alts := [], laidByText := true, laidKinds := [.data], laidTests := true, laidLooks := .later }
def SketchMergesCardSaid : Prop := Claim7.holds Tryz.pinned (.plain (OpenSpec.ofChange sketchMergesSpec)) sketchMergesCard

/-- THE TIED CARD OF 'sketchstorelaw12.SketchCodes'. -/
def sketchCodesCard : Claim7 := { stood := { row := sketchCodesRow, standIns := [], harness := (true, "ce98e678c9fca2ce64f8534b06f044745d62f9eabd52f269bb48538b869b4ba7"), looks := false }, kinds := [], alts := [], laidByText := true, laidKinds := [.data], laidTests := true, laidLooks := .later }
def SketchCodesCardSaid : Prop := Claim7.holds Tryz.pinned (.plain (OpenSpec.ofChange sketchCodesSpec)) sketchCodesCard

/-- THE TIED CARD OF 'sketchstorelaw12.SketchReads'. -/
def sketchReadsCard : Claim7 := { stood := { row := sketchReadsRow, standIns := [], harness := (true, "ce98e678c9fca2ce64f8534b06f044745d62f9eabd52f269bb48538b869b4ba7"), looks := false }, kinds := [], alts := [], laidByText := true, laidKinds := [.data], laidTests := true, laidLooks := .later }
def SketchReadsCardSaid : Prop := Claim7.holds Tryz.pinned (.plain (OpenSpec.ofChange sketchReadsSpec)) sketchReadsCard

/-- THE TIED CARD OF 'sketchstorelaw12.SketchUnion'. -/
def sketchUnionCard : Claim7 := { stood := { row := sketchUnionRow, standIns := [], harness := (true, "ce98e678c9fca2ce64f8534b06f044745d62f9eabd52f269bb48538b869b4ba7"), looks := false }, kinds := [], alts := [], laidByText := true, laidKinds := [.data], laidTests := true, laidLooks := .later }
def SketchUnionCardSaid : Prop := Claim7.holds Tryz.pinned (.plain (OpenSpec.ofChange sketchUnionSpec)) sketchUnionCard

/-- THE SECOND FORM's CARD OF 'sketchstorelaw12.SketchNew'. -/
def sketchNewUptoCard : Claim7 := { stood := { row := sketchNewUptoRow, standIns := [], harness := (true, "ce98e678c9fca2ce64f8534b06f044745d62f9eabd52f269bb48538b869b4ba7"), looks := false }, kinds := [], alts := [], laidByText := true, laidKinds := [.data], laidTests := true, laidLooks := .later }
def SketchNewUptoCardSaid : Prop := Claim7.holds Tryz.pinned (.plain (OpenSpec.upto sketchNewSpec)) sketchNewUptoCard

/-- THE SECOND FORM's CARD OF 'sketchstorelaw12.SketchLooks'. -/
def sketchLooksUptoCard : Claim7 := { stood := { row := sketchLooksUptoRow, standIns := [], harness := (true, "ce98e678c9fca2ce64f8534b06f044745d62f9eabd52f269bb48538b869b4ba7"), looks := false }, kinds := [], alts := [], laidByText := true, laidKinds := [.data], laidTests := true, laidLooks := .later }
def SketchLooksUptoCardSaid : Prop := Claim7.holds Tryz.pinned (.plain (OpenSpec.upto sketchLooksSpec)) sketchLooksUptoCard

/-- THE SECOND FORM's CARD OF 'sketchstorelaw12.SketchInserts'. -/
def sketchInsertsUptoCard : Claim7 := { stood := { row := sketchInsertsUptoRow, standIns := [], harness := (true, "ce98e678c9fca2ce64f8534b06f044745d62f9eabd52f269bb48538b869b4ba7"), looks := false }, kinds := [], alts := [], laidByText := true, laidKinds := [.data], laidTests := true, laidLooks := .later }
def SketchInsertsUptoCardSaid : Prop := Claim7.holds Tryz.pinned (.plain (OpenSpec.upto sketchInsertsSpec)) sketchInsertsUptoCard

/-- THE SECOND FORM's CARD OF 'sketchstorelaw12.SketchMerges'. -/
def sketchMergesUptoCard : Claim7 := { stood := { row := sketchMergesUptoRow, standIns := [], harness := (true, "ce98e678c9fca2ce64f8534b06f044745d62f9eabd52f269bb48538b869b4ba7"), looks := false }, kinds := [], alts := [], laidByText := true, laidKinds := [.data], laidTests := true, laidLooks := .later }
def SketchMergesUptoCardSaid : Prop := Claim7.holds Tryz.pinned (.plain (OpenSpec.upto sketchMergesSpec)) sketchMergesUptoCard

/-- THE SECOND FORM's CARD OF 'sketchstorelaw12.SketchCodes'. -/
def sketchCodesUptoCard : Claim7 := { stood := { row := sketchCodesUptoRow, standIns := [], harness := (true, "ce98e678c9fca2ce64f8534b06f044745d62f9eabd52f269bb48538b869b4ba7"), looks := false }, kinds := [], alts := [], laidByText := true, laidKinds := [.data], laidTests := true, laidLooks := .later }
def SketchCodesUptoCardSaid : Prop := Claim7.holds Tryz.pinned (.plain (OpenSpec.upto sketchCodesSpec)) sketchCodesUptoCard

/-- THE SECOND FORM's CARD OF 'sketchstorelaw12.SketchReads'. -/
def sketchReadsUptoCard : Claim7 := { stood := { row := sketchReadsUptoRow, standIns := [], harness := (true, "ce98e678c9fca2ce64f8534b06f044745d62f9eabd52f269bb48538b869b4ba7"), looks := false }, kinds := [], alts := [], laidByText := true, laidKinds := [.data], laidTests := true, laidLooks := .later }
def SketchReadsUptoCardSaid : Prop := Claim7.holds Tryz.pinned (.plain (OpenSpec.upto sketchReadsSpec)) sketchReadsUptoCard

/-- THE SECOND FORM's CARD OF 'sketchstorelaw12.SketchUnion'. -/
def sketchUnionUptoCard : Claim7 := { stood := { row := sketchUnionUptoRow, standIns := [], harness := (true, "ce98e678c9fca2ce64f8534b06f044745d62f9eabd52f269bb48538b869b4ba7"), looks := false }, kinds := [], alts := [], laidByText := true, laidKinds := [.data], laidTests := true, laidLooks := .later }
def SketchUnionUptoCardSaid : Prop := Claim7.holds Tryz.pinned (.plain (OpenSpec.upto sketchUnionSpec)) sketchUnionUptoCard
end Rows
end Go.Proofs.YtcndobdbjillpaaGreatDoor
