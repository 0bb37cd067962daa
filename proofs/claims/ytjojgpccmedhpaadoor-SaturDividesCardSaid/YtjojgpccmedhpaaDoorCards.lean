/-
  DERIVED. GIVEN WITH THE SEED: THE CARDS: each row of YtjojgpccmedhpaaDoorRows.lean that lists a variable, with what it lists TIED to the program's text (the seventh form; the later family's looks); each row that meets fmt, with fmt's text TOLD by the authors' own Lean function (tested against real Go, not proved from fmt's source: count such statements apart). THE CARD IS WHAT COUNTS. Prove the row's statement (the work); the ties are given (YtjojgpccmedhpaaDoorTie.lean); close each card by the builder's one call (the guide's Derived/Test/ToyasCard.lean, 'card_holds'). Laid BY PROGRAM, IN A SANDBOX (cutbox-door.mjs). By AI agents, Wed Nov 11 2026. No macro, syntax, notation, axiom, sorry.
-/
import Derived.Test.YtjojgpccmedhpaaDoorRows
import GoSem.ClaimSeven
namespace Go.Proofs.YtjojgpccmedhpaaDoor
namespace Rows

/-- THE TIED CARD OF 'sketchstorelaw1.SaturSums'. -/
def saturSumsCard : Claim7 := { stood := { row := saturSumsRow, standIns := [], harness := (true, "5d906d2aa1b12ca5a4142e96cffc62f743e73f938aed86e9204412435476eab6"), looks := false }, kinds := [], alts := [], laidByText := true, laidKinds := [.data], laidTests := true, laidLooks := .later }
def SaturSumsCardSaid : Prop := Claim7.holds Tryd.pinned (.plain (OpenSpec.ofChange saturSumsSpec)) saturSumsCard

/-- THE TIED CARD OF 'sketchstorelaw1.SaturDivides'. -/
def saturDividesCard : Claim7 := { stood := { row := saturDividesRow, standIns := [], harness := (true, "5d906d2aa1b12ca5a4142e96cffc62f743e73f938aed86e9204412435476eab6"), looks := false }, kinds := [], alts := [], laidByText := true, laidKinds := [.data], laidTests := true, laidLooks := .later }
def SaturDividesCardSaid : Prop := Claim7.holds Tryd.pinned (.plain (OpenSpec.ofChange saturDividesSpec)) saturDividesCard

/-- THE TIED CARD OF 'sketchstorelaw1.SaturBits'. -/
def saturBitsCard : Claim7 := { stood := { row := saturBitsRow, standIns := [], harness := (true, "5d906d2aa1b12ca5a4142e96cffc62f743e73f938aed86e9204412435476eab6"), looks := false }, kinds := [], alts := [], laidByText := true, laidKinds := [.data], laidTests := true, laidLooks := .later }
def SaturBitsCardSaid : Prop := Claim7.holds Tryd.pinned (.plain (OpenSpec.ofChange saturBitsSpec)) saturBitsCard

/-- THE TIED CARD OF 'sketchstorelaw1.SaturOrder'. -/
def saturOrderCard : Claim7 := { stood := { row := saturOrderRow, standIns := [], harness := (true, "5d906d2aa1b12ca5a4142e96cffc62f743e73f938aed86e9204412435476eab6"), looks := false }, kinds := [], alts := [], laidByText := true, laidKinds := [.data], laidTests := true, laidLooks := .later }
def SaturOrderCardSaid : Prop := Claim7.holds Tryd.pinned (.plain (OpenSpec.ofChange saturOrderSpec)) saturOrderCard

/-- THE TIED CARD OF 'sketchstorelaw1.SaturInverse'. -/
def saturInverseCard : Claim7 := { stood := { row := saturInverseRow, standIns := [], harness := (true, "5d906d2aa1b12ca5a4142e96cffc62f743e73f938aed86e9204412435476eab6"), looks := false }, kinds := [], alts := [], laidByText := true, laidKinds := [.data], laidTests := true, laidLooks := .later }
def SaturInverseCardSaid : Prop := Claim7.holds Tryd.pinned (.plain (OpenSpec.ofChange saturInverseSpec)) saturInverseCard

/-- THE SECOND FORM's CARD OF 'sketchstorelaw1.SaturSums'. -/
def saturSumsUptoCard : Claim7 := { stood := { row := saturSumsUptoRow, standIns := [], harness := (true, "5d906d2aa1b12ca5a4142e96cffc62f743e73f938aed86e9204412435476eab6"), looks := false }, kinds := [], alts := [], laidByText := true, laidKinds := [.data], laidTests := true, laidLooks := .later }
def SaturSumsUptoCardSaid : Prop := Claim7.holds Tryd.pinned (.plain (OpenSpec.upto saturSumsSpec)) saturSumsUptoCard

/-- THE SECOND FORM's CARD OF 'sketchstorelaw1.SaturDivides'. -/
def saturDividesUptoCard : Claim7 := { stood := { row := saturDividesUptoRow, standIns := [], harness := (true, "5d906d2aa1b12ca5a4142e96cffc62f743e73f938aed86e9204412435476eab6"), looks := false }, kinds := [], alts := [], laidByText := true, laidKinds := [.data], laidTests := true, laidLooks := .later }
def SaturDividesUptoCardSaid : Prop := Claim7.holds Tryd.pinned (.plain (OpenSpec.upto saturDividesSpec)) saturDividesUptoCard

/-- THE SECOND FORM's CARD OF 'sketchstorelaw1.SaturBits'. -/
def saturBitsUptoCard : Claim7 := { stood := { row := saturBitsUptoRow, standIns := [], harness := (true, "5d906d2aa1b12ca5a4142e96cffc62f743e73f938aed86e9204412435476eab6"), looks := false }, kinds := [], alts := [], laidByText := true, laidKinds := [.data], laidTests := true, laidLooks := .later }
def SaturBitsUptoCardSaid : Prop := Claim7.holds Tryd.pinned (.plain (OpenSpec.upto saturBitsSpec)) saturBitsUptoCard

/-- THE SECOND FORM's CARD OF 'sketchstorelaw1.SaturOrder'. -/
def saturOrderUptoCard : Claim7 := { stood := { row := saturOrderUptoRow, standIns := [], harness := (true, "5d906d2aa1b12ca5a4142e96cffc62f743e73f938aed86e9204412435476eab6"), looks := false }, kinds := [], alts := [], laidByText := true, laidKinds := [.data], laidTests := true, laidLooks := .later }
def SaturOrderUptoCardSaid : Prop := Claim7.holds Tryd.pinned (.plain (OpenSpec.upto saturOrderSpec)) saturOrderUptoCard

/-- THE SECOND FORM's CARD OF 'sketchstorelaw1.SaturInverse'. -/
def saturInverseUptoCard : Claim7 := { stood := { row := saturInverseUptoRow, standIns := [], harness := (true, "5d906d2aa1b12ca5a4142e96cffc62f743e73f938aed86e9204412435476eab6"), looks := false }, kinds := [], alts := [], laidByText := true, laidKinds := [.data], laidTests := true, laidLooks := .later }
def SaturInverseUptoCardSaid : Prop := Claim7.holds Tryd.pinned (.plain (OpenSpec.upto saturInverseSpec)) saturInverseUptoCard
end Rows
end Go.Proofs.YtjojgpccmedhpaaDoor
