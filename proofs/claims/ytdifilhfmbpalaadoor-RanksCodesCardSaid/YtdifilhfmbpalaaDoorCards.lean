/-
  DERIVED. GIVEN WITH THE SEED: THE CARDS: each row of YtdifilhfmbpalaaDoorRows.lean that lists a variable, with what it lists TIED to the program's text (the seventh form; the later family's looks); each row that meets fmt, with fmt's text TOLD by the authors' own Lean function (tested against real Go, not proved from fmt's source: count such statements apart). THE CARD IS WHAT COUNTS. Prove the row's statement (the work); the ties are given (YtdifilhfmbpalaaDoorTie.lean); close each card by the builder's one call (the guide's Derived/Test/ToyasCard.lean, 'card_holds'). Laid BY PROGRAM, IN A SANDBOX (cutbox-door.mjs). By AI agents, Wed Nov 11 2026. No macro, syntax, notation, axiom, sorry.
-/
import Derived.Test.YtdifilhfmbpalaaDoorRows
import GoSem.ClaimSeven
namespace Go.Proofs.YtdifilhfmbpalaaDoor
namespace Rows

/-- THE TIED CARD OF 'sketchstorelaw11.RanksInserts'. -/
def ranksInsertsCard : Claim7 := { stood := { row := ranksInsertsRow, standIns := [], harness := (true, "34f0ee9bb288f7a29cc9dabdd5eddd5f554748ccd73db5fe4615eb02f03c7fad"), looks := false }, kinds := [], alts := [], laidByText := true, laidKinds := [.data], laidTests := true, laidLooks := .later }
def RanksInsertsCardSaid : Prop := Claim7.holds Tryd.pinned (.plain (OpenSpec.ofChange ranksInsertsSpec)) ranksInsertsCard

/-- THE TIED CARD OF 'sketchstorelaw11.RanksMerges'. -/
def ranksMergesCard : Claim7 := { stood := { row := ranksMergesRow, standIns := [], harness := (true, "34f0ee9bb288f7a29cc9dabdd5eddd5f554748ccd73db5fe4615eb02f03c7fad"), looks := false }, kinds := [], alts := [], laidByText := true, laidKinds := [.data], laidTests := true, laidLooks := .later }
def RanksMergesCardSaid : Prop := Claim7.holds Tryd.pinned (.plain (OpenSpec.ofChange ranksMergesSpec)) ranksMergesCard

/-- THE TIED CARD OF 'sketchstorelaw11.RanksQueries'. -/
def ranksQueriesCard : Claim7 := { stood := { row := ranksQueriesRow, standIns := [], harness := (true, "34f0ee9bb288f7a29cc9dabdd5eddd5f554748ccd73db5fe4615eb02f03c7fad"), looks := false }, kinds := [], alts := [], laidByText := true, laidKinds := [.data], laidTests := true, laidLooks := .later }
def RanksQueriesCardSaid : Prop := Claim7.holds Tryd.pinned (.plain (OpenSpec.ofChange ranksQueriesSpec)) ranksQueriesCard

/-- THE TIED CARD OF 'sketchstorelaw11.RanksCodes'. -/
def ranksCodesCard : Claim7 := { stood := { row := ranksCodesRow, standIns := [], harness := (true, "34f0ee9bb288f7a29cc9dabdd5eddd5f554748ccd73db5fe4615eb02f03c7fad"), looks := false }, kinds := [], alts := [], laidByText := true, laidKinds := [.data], laidTests := true, laidLooks := .later }
def RanksCodesCardSaid : Prop := Claim7.holds Tryd.pinned (.plain (OpenSpec.ofChange ranksCodesSpec)) ranksCodesCard

/-- THE TIED CARD OF 'sketchstorelaw11.RanksBounds'. -/
def ranksBoundsCard : Claim7 := { stood := { row := ranksBoundsRow, standIns := [], harness := (true, "34f0ee9bb288f7a29cc9dabdd5eddd5f554748ccd73db5fe4615eb02f03c7fad"), looks := false }, kinds := [], alts := [], laidByText := true, laidKinds := [.data], laidTests := true, laidLooks := .later }
def RanksBoundsCardSaid : Prop := Claim7.holds Tryd.pinned (.plain (OpenSpec.ofChange ranksBoundsSpec)) ranksBoundsCard

/-- THE TIED CARD OF 'sketchstorelaw11.RanksOrder'. -/
def ranksOrderCard : Claim7 := { stood := { row := ranksOrderRow, standIns := [], harness := (true, "34f0ee9bb288f7a29cc9dabdd5eddd5f554748ccd73db5fe4615eb02f03c7fad"), looks := false }, kinds := [], alts := [], laidByText := true, laidKinds := [.data], laidTests := true, laidLooks := .later }
def RanksOrderCardSaid : Prop := Claim7.holds Tryd.pinned (.plain (OpenSpec.ofChange ranksOrderSpec)) ranksOrderCard

/-- THE TIED CARD OF 'sketchstorelaw11.RanksExact'. -/
def ranksExactCard : Claim7 := { stood := { row := ranksExactRow, standIns := [], harness := (true, "34f0ee9bb288f7a29cc9dabdd5eddd5f554748ccd73db5fe4615eb02f03c7fad"), looks := false }, kinds := [], alts := [], laidByText := true, laidKinds := [.data], laidTests := true, laidLooks := .later }
def RanksExactCardSaid : Prop := Claim7.holds Tryd.pinned (.plain (OpenSpec.ofChange ranksExactSpec)) ranksExactCard

/-- THE SECOND FORM's CARD OF 'sketchstorelaw11.RanksInserts'. -/
def ranksInsertsUptoCard : Claim7 := { stood := { row := ranksInsertsUptoRow, standIns := [], harness := (true, "34f0ee9bb288f7a29cc9dabdd5eddd5f554748ccd73db5fe4615eb02f03c7fad"), looks := false }, kinds := [], alts := [], laidByText := true, laidKinds := [.data], laidTests := true, laidLooks := .later }
def RanksInsertsUptoCardSaid : Prop := Claim7.holds Tryd.pinned (.plain (OpenSpec.upto ranksInsertsSpec)) ranksInsertsUptoCard

/-- THE SECOND FORM's CARD OF 'sketchstorelaw11.RanksMerges'. -/
def ranksMergesUptoCard : Claim7 := { stood := { row := ranksMergesUptoRow, standIns := [], harness := (true, "34f0ee9bb288f7a29cc9dabdd5eddd5f554748ccd73db5fe4615eb02f03c7fad"), looks := false }, kinds := [], alts := [], laidByText := true, laidKinds := [.data], laidTests := true, laidLooks := .later }
def RanksMergesUptoCardSaid : Prop := Claim7.holds Tryd.pinned (.plain (OpenSpec.upto ranksMergesSpec)) ranksMergesUptoCard

/-- THE SECOND FORM's CARD OF 'sketchstorelaw11.RanksQueries'. -/
def ranksQueriesUptoCard : Claim7 := { stood := { row := ranksQueriesUptoRow, standIns := [], harness := (true, "34f0ee9bb288f7a29cc9dabdd5eddd5f554748ccd73db5fe4615eb02f03c7fad"), looks := false }, kinds := [], alts := [], laidByText := true, laidKinds := [.data], laidTests := true, laidLooks := .later }
def RanksQueriesUptoCardSaid : Prop := Claim7.holds Tryd.pinned (.plain (OpenSpec.upto ranksQueriesSpec)) ranksQueriesUptoCard

/-- THE SECOND FORM's CARD OF 'sketchstorelaw11.RanksCodes'. -/
def ranksCodesUptoCard : Claim7 := { stood := { row := ranksCodesUptoRow, standIns := [], harness := (true, "34f0ee9bb288f7a29cc9dabdd5eddd5f554748ccd73db5fe4615eb02f03c7fad"), looks := false }, kinds := [], alts := [], laidByText := true, laidKinds := [.data], laidTests := true, laidLooks := .later }
def RanksCodesUptoCardSaid : Prop := Claim7.holds Tryd.pinned (.plain (OpenSpec.upto ranksCodesSpec)) ranksCodesUptoCard

/-- THE SECOND FORM's CARD OF 'sketchstorelaw11.RanksBounds'. -/
def ranksBoundsUptoCard : Claim7 := { stood := { row := ranksBoundsUptoRow, standIns := [], harness := (true, "34f0ee9bb288f7a29cc9dabdd5eddd5f554748ccd73db5fe4615eb02f03c7fad"), looks := false }, kinds := [], alts := [], laidByText := true, laidKinds := [.data], laidTests := true, laidLooks := .later }
def RanksBoundsUptoCardSaid : Prop := Claim7.holds Tryd.pinned (.plain (OpenSpec.upto ranksBoundsSpec)) ranksBoundsUptoCard

/-- THE SECOND FORM's CARD OF 'sketchstorelaw11.RanksOrder'. -/
def ranksOrderUptoCard : Claim7 := { stood := { row := ranksOrderUptoRow, standIns := [], harness := (true, "34f0ee9bb288f7a29cc9dabdd5eddd5f554748ccd73db5fe4615eb02f03c7fad"), looks := false }, kinds := [], alts := [], laidByText := true, laidKinds := [.data], laidTests := true, laidLooks := .later }
def RanksOrderUptoCardSaid : Prop := Claim7.holds Tryd.pinned (.plain (OpenSpec.upto ranksOrderSpec)) ranksOrderUptoCard

/-- THE SECOND FORM's CARD OF 'sketchstorelaw11.RanksExact'. -/
def ranksExactUptoCard : Claim7 := { stood := { row := ranksExactUptoRow, standIns := [], harness := (true, "34f0ee9bb288f7a29cc9dabdd5eddd5f554748ccd73db5fe4615eb02f03c7fad"), looks := false }, kinds := [], alts := [], laidByText := true, laidKinds := [.data], laidTests := true, laidLooks := .later }
def RanksExactUptoCardSaid : Prop := Claim7.holds Tryd.pinned (.plain (OpenSpec.upto ranksExactSpec)) ranksExactUptoCard
end Rows
end Go.Proofs.YtdifilhfmbpalaaDoor
