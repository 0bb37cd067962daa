/-
  NARROWER THAN 'FOR EVERY INPUT', by the rows' own cells (each row's printed sentence says how): RanksInserts: laid · RanksMerges: laid · RanksQueries: laid · RanksCodes: laid · RanksBounds: laid · RanksOrder: laid · RanksExact: laid.
  DERIVED. THE GIVEN ROWS OF THIS SEAT. 7 by the template 'for every input the law returns true; each argument reads behind the call as it read before'; 0 by the template 'total and deterministic' (their statements: YtdifilhfmbpalaaDoorTotals.lean).
  GIVEN WITH THE SEED: the statements are not yours to turn. If you find one false, say at which input.
  Laid BY PROGRAM, IN A SANDBOX (cutbox-rows.mjs): the forced cells as the released guide's own fill.sh prints them over the translation ba5b8596e2f1f819… (all of the seat's roots in one cut). By AI agents, Wed Nov 11 2026. No macro, syntax, notation, axiom, sorry.
-/
import Derived.Test.YtdifilhfmbpalaaDoorChecked
import GoSem.Claim
import GoSem.ClaimJoined
import GoSem.ClaimMapViews
import Derived.JoinedTies
import Derived.KernelRfl
namespace Go.Proofs.YtdifilhfmbpalaaDoor
/- THE CELL 'sum', in the pinned program and in every row, IS THE sha256 OF THE DUMP (.gsa) THAT YtdifilhfmbpalaaDoorProg.lean LOADS. Nothing in Lean hashes anything: it is a label: what it is worth is what the hold of that sum in a sandbox is worth. -/
noncomputable def Tryd.pinned : Pinned := { name := "ytdifilhfmbpalaadoor", sum := "ba5b8596e2f1f81955873401badb3e421c224db647f0c6df01343e039f43e3be", checked := Tryd.checked }
namespace Rows
def none {H : Type} : Left H := { results := [], args := [] }

/- WHAT THE LISTED PACKAGE-LEVEL VARIABLES READ AS WHEN THE CALL BEGINS. Each datum BY PROGRAM (the guide's laid-datum.mjs) off the statement by which the dump's own 'gosem.cut.vars' lays the variable. In a bare row this is a premise. The card (YtdifilhfmbpalaaDoorCards.lean) ties it to the program's text. -/
def laid_math_bits_deBruijn64tab {H : Type} : DataW H := .agg [.lit (.int .u8 0), .lit (.int .u8 1), .lit (.int .u8 56), .lit (.int .u8 2), .lit (.int .u8 57), .lit (.int .u8 49), .lit (.int .u8 28), .lit (.int .u8 3), .lit (.int .u8 61), .lit (.int .u8 58), .lit (.int .u8 42), .lit (.int .u8 50), .lit (.int .u8 38), .lit (.int .u8 29), .lit (.int .u8 17), .lit (.int .u8 4), .lit (.int .u8 62), .lit (.int .u8 47), .lit (.int .u8 59), .lit (.int .u8 36), .lit (.int .u8 45), .lit (.int .u8 43), .lit (.int .u8 51), .lit (.int .u8 22), .lit (.int .u8 53), .lit (.int .u8 39), .lit (.int .u8 33), .lit (.int .u8 30), .lit (.int .u8 24), .lit (.int .u8 18), .lit (.int .u8 12), .lit (.int .u8 5), .lit (.int .u8 63), .lit (.int .u8 55), .lit (.int .u8 48), .lit (.int .u8 27), .lit (.int .u8 60), .lit (.int .u8 41), .lit (.int .u8 37), .lit (.int .u8 16), .lit (.int .u8 46), .lit (.int .u8 35), .lit (.int .u8 44), .lit (.int .u8 21), .lit (.int .u8 52), .lit (.int .u8 32), .lit (.int .u8 23), .lit (.int .u8 11), .lit (.int .u8 54), .lit (.int .u8 26), .lit (.int .u8 40), .lit (.int .u8 15), .lit (.int .u8 34), .lit (.int .u8 20), .lit (.int .u8 31), .lit (.int .u8 10), .lit (.int .u8 25), .lit (.int .u8 14), .lit (.int .u8 19), .lit (.int .u8 9), .lit (.int .u8 13), .lit (.int .u8 8), .lit (.int .u8 7), .lit (.int .u8 6)]

/-- 'sketchstorelaw11.RanksInserts': WHATEVER THE INPUT: true; the input reads as it did. -/
def ranksInsertsSpec : ChangeSpec := { name := "ranksInserts", fn := fun _ => fun
  | [d1, d2, d3, d4, d5] => { results := [.lit (.bool true)], args := [d1, d2, d3, d4, d5] }
  | _ => none }
def ranksInsertsRow : OpenClaim := { program := "ytdifilhfmbpalaadoor", sum := "ba5b8596e2f1f81955873401badb3e421c224db647f0c6df01343e039f43e3be", func := "sketchstore/sketchstorelaw11.RanksInserts", spec := "ranksInserts", unfollowed := true, recurses := true, named := ["math/bits.deBruijn64tab"], apart := false, laid := [("math/bits.deBruijn64tab", laid_math_bits_deBruijn64tab)] }
def RanksInsertsSaid : Prop := ranksInsertsRow.holds Tryd.pinned (OpenSpec.ofChange ranksInsertsSpec)

/-- ITS FALSE NEIGHBOUR: 'it returns false'. Refute it at one input. -/
def ranksInsertsWrong : ChangeSpec := { name := "ranksInserts", fn := fun _ => fun
  | [d1, d2, d3, d4, d5] => { results := [.lit (.bool false)], args := [d1, d2, d3, d4, d5] }
  | _ => none }
def RanksInsertsWrongFalsely : Prop := ranksInsertsRow.holds Tryd.pinned (OpenSpec.ofChange ranksInsertsWrong)

/-- 'sketchstorelaw11.RanksMerges': WHATEVER THE INPUT: true; the input reads as it did. -/
def ranksMergesSpec : ChangeSpec := { name := "ranksMerges", fn := fun _ => fun
  | [d1, d2, d3, d4, d5, d6] => { results := [.lit (.bool true)], args := [d1, d2, d3, d4, d5, d6] }
  | _ => none }
def ranksMergesRow : OpenClaim := { program := "ytdifilhfmbpalaadoor", sum := "ba5b8596e2f1f81955873401badb3e421c224db647f0c6df01343e039f43e3be", func := "sketchstore/sketchstorelaw11.RanksMerges", spec := "ranksMerges", unfollowed := true, recurses := true, named := ["math/bits.deBruijn64tab"], apart := false, laid := [("math/bits.deBruijn64tab", laid_math_bits_deBruijn64tab)] }
def RanksMergesSaid : Prop := ranksMergesRow.holds Tryd.pinned (OpenSpec.ofChange ranksMergesSpec)

/-- ITS FALSE NEIGHBOUR: 'it returns false'. Refute it at one input. -/
def ranksMergesWrong : ChangeSpec := { name := "ranksMerges", fn := fun _ => fun
  | [d1, d2, d3, d4, d5, d6] => { results := [.lit (.bool false)], args := [d1, d2, d3, d4, d5, d6] }
  | _ => none }
def RanksMergesWrongFalsely : Prop := ranksMergesRow.holds Tryd.pinned (OpenSpec.ofChange ranksMergesWrong)

/-- 'sketchstorelaw11.RanksQueries': WHATEVER THE INPUT: true; the input reads as it did. -/
def ranksQueriesSpec : ChangeSpec := { name := "ranksQueries", fn := fun _ => fun
  | [d1, d2, d3, d4, d5, d6] => { results := [.lit (.bool true)], args := [d1, d2, d3, d4, d5, d6] }
  | _ => none }
def ranksQueriesRow : OpenClaim := { program := "ytdifilhfmbpalaadoor", sum := "ba5b8596e2f1f81955873401badb3e421c224db647f0c6df01343e039f43e3be", func := "sketchstore/sketchstorelaw11.RanksQueries", spec := "ranksQueries", unfollowed := true, recurses := true, named := ["math/bits.deBruijn64tab"], apart := false, laid := [("math/bits.deBruijn64tab", laid_math_bits_deBruijn64tab)] }
def RanksQueriesSaid : Prop := ranksQueriesRow.holds Tryd.pinned (OpenSpec.ofChange ranksQueriesSpec)

/-- ITS FALSE NEIGHBOUR: 'it returns false'. Refute it at one input. -/
def ranksQueriesWrong : ChangeSpec := { name := "ranksQueries", fn := fun _ => fun
  | [d1, d2, d3, d4, d5, d6] => { results := [.lit (.bool false)], args := [d1, d2, d3, d4, d5, d6] }
  | _ => none }
def RanksQueriesWrongFalsely : Prop := ranksQueriesRow.holds Tryd.pinned (OpenSpec.ofChange ranksQueriesWrong)

/-- 'sketchstorelaw11.RanksCodes': WHATEVER THE INPUT: true; the input reads as it did. -/
def ranksCodesSpec : ChangeSpec := { name := "ranksCodes", fn := fun _ => fun
  | [d1, d2, d3, d4, d5] => { results := [.lit (.bool true)], args := [d1, d2, d3, d4, d5] }
  | _ => none }
def ranksCodesRow : OpenClaim := { program := "ytdifilhfmbpalaadoor", sum := "ba5b8596e2f1f81955873401badb3e421c224db647f0c6df01343e039f43e3be", func := "sketchstore/sketchstorelaw11.RanksCodes", spec := "ranksCodes", unfollowed := true, recurses := true, named := ["math/bits.deBruijn64tab"], apart := false, laid := [("math/bits.deBruijn64tab", laid_math_bits_deBruijn64tab)] }
def RanksCodesSaid : Prop := ranksCodesRow.holds Tryd.pinned (OpenSpec.ofChange ranksCodesSpec)

/-- ITS FALSE NEIGHBOUR: 'it returns false'. Refute it at one input. -/
def ranksCodesWrong : ChangeSpec := { name := "ranksCodes", fn := fun _ => fun
  | [d1, d2, d3, d4, d5] => { results := [.lit (.bool false)], args := [d1, d2, d3, d4, d5] }
  | _ => none }
def RanksCodesWrongFalsely : Prop := ranksCodesRow.holds Tryd.pinned (OpenSpec.ofChange ranksCodesWrong)

/-- 'sketchstorelaw11.RanksBounds': WHATEVER THE INPUT: true; the input reads as it did. -/
def ranksBoundsSpec : ChangeSpec := { name := "ranksBounds", fn := fun _ => fun
  | [d1, d2, d3, d4, d5] => { results := [.lit (.bool true)], args := [d1, d2, d3, d4, d5] }
  | _ => none }
def ranksBoundsRow : OpenClaim := { program := "ytdifilhfmbpalaadoor", sum := "ba5b8596e2f1f81955873401badb3e421c224db647f0c6df01343e039f43e3be", func := "sketchstore/sketchstorelaw11.RanksBounds", spec := "ranksBounds", unfollowed := true, recurses := true, named := ["math/bits.deBruijn64tab"], apart := false, laid := [("math/bits.deBruijn64tab", laid_math_bits_deBruijn64tab)] }
def RanksBoundsSaid : Prop := ranksBoundsRow.holds Tryd.pinned (OpenSpec.ofChange ranksBoundsSpec)

/-- ITS FALSE NEIGHBOUR: 'it returns false'. Refute it at one input. -/
def ranksBoundsWrong : ChangeSpec := { name := "ranksBounds", fn := fun _ => fun
  | [d1, d2, d3, d4, d5] => { results := [.lit (.bool false)], args := [d1, d2, d3, d4, d5] }
  | _ => none }
def RanksBoundsWrongFalsely : Prop := ranksBoundsRow.holds Tryd.pinned (OpenSpec.ofChange ranksBoundsWrong)

/-- 'sketchstorelaw11.RanksOrder': WHATEVER THE INPUT: true; the input reads as it did. -/
def ranksOrderSpec : ChangeSpec := { name := "ranksOrder", fn := fun _ => fun
  | [d1, d2, d3, d4, d5, d6] => { results := [.lit (.bool true)], args := [d1, d2, d3, d4, d5, d6] }
  | _ => none }
def ranksOrderRow : OpenClaim := { program := "ytdifilhfmbpalaadoor", sum := "ba5b8596e2f1f81955873401badb3e421c224db647f0c6df01343e039f43e3be", func := "sketchstore/sketchstorelaw11.RanksOrder", spec := "ranksOrder", unfollowed := true, recurses := true, named := ["math/bits.deBruijn64tab"], apart := false, laid := [("math/bits.deBruijn64tab", laid_math_bits_deBruijn64tab)] }
def RanksOrderSaid : Prop := ranksOrderRow.holds Tryd.pinned (OpenSpec.ofChange ranksOrderSpec)

/-- ITS FALSE NEIGHBOUR: 'it returns false'. Refute it at one input. -/
def ranksOrderWrong : ChangeSpec := { name := "ranksOrder", fn := fun _ => fun
  | [d1, d2, d3, d4, d5, d6] => { results := [.lit (.bool false)], args := [d1, d2, d3, d4, d5, d6] }
  | _ => none }
def RanksOrderWrongFalsely : Prop := ranksOrderRow.holds Tryd.pinned (OpenSpec.ofChange ranksOrderWrong)

/-- 'sketchstorelaw11.RanksExact': WHATEVER THE INPUT: true; the input reads as it did. -/
def ranksExactSpec : ChangeSpec := { name := "ranksExact", fn := fun _ => fun
  | [d1, d2, d3] => { results := [.lit (.bool true)], args := [d1, d2, d3] }
  | _ => none }
def ranksExactRow : OpenClaim := { program := "ytdifilhfmbpalaadoor", sum := "ba5b8596e2f1f81955873401badb3e421c224db647f0c6df01343e039f43e3be", func := "sketchstore/sketchstorelaw11.RanksExact", spec := "ranksExact", unfollowed := true, recurses := true, named := ["math/bits.deBruijn64tab"], apart := false, laid := [("math/bits.deBruijn64tab", laid_math_bits_deBruijn64tab)] }
def RanksExactSaid : Prop := ranksExactRow.holds Tryd.pinned (OpenSpec.ofChange ranksExactSpec)

/-- ITS FALSE NEIGHBOUR: 'it returns false'. Refute it at one input. -/
def ranksExactWrong : ChangeSpec := { name := "ranksExact", fn := fun _ => fun
  | [d1, d2, d3] => { results := [.lit (.bool false)], args := [d1, d2, d3] }
  | _ => none }
def RanksExactWrongFalsely : Prop := ranksExactRow.holds Tryd.pinned (OpenSpec.ofChange ranksExactWrong)

/- THE SECOND FORM. 'bulk': how many values and letters a reading holds, each counted each time it is reached (what is shared counts as often as it is met; a slice's spare places count too). A statement '..UptoSaid' is the law's where the arguments, and the package variables that the reading takes, are together of bulk at most 1048576: NARROWER than '..Said'. Prove '..Said' where nothing that the law and all that it calls make is longer than what came in: it says more and counts as full. Else prove '..UptoSaid'. A law counts once. -/
mutual
def uptoBulk {H : Type} : DataW H → Nat
  | .lit (.string bytes) => bytes.length + 1
  | .lit _ => 1
  | .nil => 1
  | .ptr d => uptoBulk d + 1
  | .slice elems spare => uptoBulkAll elems + uptoBulkAll spare + 1
  | .agg parts => uptoBulkAll parts + 1
  | .iface _ d => uptoBulk d + 1
  | .map entries => uptoBulkEntries entries + 1
  | .held _ => 1
def uptoBulkAll {H : Type} : List (DataW H) → Nat
  | [] => 0
  | d :: r => uptoBulk d + uptoBulkAll r
def uptoBulkEntries {H : Type} : List (Lit × DataW H) → Nat
  | [] => 0
  | x :: r => uptoBulkEntry x + uptoBulkEntries r
def uptoBulkEntry {H : Type} : Lit × DataW H → Nat
  | (.string bytes, d) => bytes.length + uptoBulk d + 1
  | (_, d) => uptoBulk d + 1
 end
def uptoSmall : (H : Type) → List (DataW H) → Bool := fun _ ds => decide (uptoBulkAll ds ≤ 1048576)
def OpenSpec.upto (s : _root_.Go.ChangeSpec) : _root_.Go.OpenSpec := { _root_.Go.OpenSpec.ofChange s with cond := some uptoSmall }

/-- 'sketchstorelaw11.RanksInserts', WHERE WHAT IT READS IS OF BULK AT MOST 1048576: true; the input reads as it did. -/
def ranksInsertsUptoRow : OpenClaim := { program := "ytdifilhfmbpalaadoor", sum := "ba5b8596e2f1f81955873401badb3e421c224db647f0c6df01343e039f43e3be", func := "sketchstore/sketchstorelaw11.RanksInserts", spec := "ranksInserts", unfollowed := true, recurses := true, named := ["math/bits.deBruijn64tab"], apart := false, laid := [("math/bits.deBruijn64tab", laid_math_bits_deBruijn64tab)], narrowed := true }
def RanksInsertsUptoSaid : Prop := ranksInsertsUptoRow.holds Tryd.pinned (OpenSpec.upto ranksInsertsSpec)

/-- 'sketchstorelaw11.RanksMerges', WHERE WHAT IT READS IS OF BULK AT MOST 1048576: true; the input reads as it did. -/
def ranksMergesUptoRow : OpenClaim := { program := "ytdifilhfmbpalaadoor", sum := "ba5b8596e2f1f81955873401badb3e421c224db647f0c6df01343e039f43e3be", func := "sketchstore/sketchstorelaw11.RanksMerges", spec := "ranksMerges", unfollowed := true, recurses := true, named := ["math/bits.deBruijn64tab"], apart := false, laid := [("math/bits.deBruijn64tab", laid_math_bits_deBruijn64tab)], narrowed := true }
def RanksMergesUptoSaid : Prop := ranksMergesUptoRow.holds Tryd.pinned (OpenSpec.upto ranksMergesSpec)

/-- 'sketchstorelaw11.RanksQueries', WHERE WHAT IT READS IS OF BULK AT MOST 1048576: true; the input reads as it did. -/
def ranksQueriesUptoRow : OpenClaim := { program := "ytdifilhfmbpalaadoor", sum := "ba5b8596e2f1f81955873401badb3e421c224db647f0c6df01343e039f43e3be", func := "sketchstore/sketchstorelaw11.RanksQueries", spec := "ranksQueries", unfollowed := true, recurses := true, named := ["math/bits.deBruijn64tab"], apart := false, laid := [("math/bits.deBruijn64tab", laid_math_bits_deBruijn64tab)], narrowed := true }
def RanksQueriesUptoSaid : Prop := ranksQueriesUptoRow.holds Tryd.pinned (OpenSpec.upto ranksQueriesSpec)

/-- 'sketchstorelaw11.RanksCodes', WHERE WHAT IT READS IS OF BULK AT MOST 1048576: true; the input reads as it did. -/
def ranksCodesUptoRow : OpenClaim := { program := "ytdifilhfmbpalaadoor", sum := "ba5b8596e2f1f81955873401badb3e421c224db647f0c6df01343e039f43e3be", func := "sketchstore/sketchstorelaw11.RanksCodes", spec := "ranksCodes", unfollowed := true, recurses := true, named := ["math/bits.deBruijn64tab"], apart := false, laid := [("math/bits.deBruijn64tab", laid_math_bits_deBruijn64tab)], narrowed := true }
def RanksCodesUptoSaid : Prop := ranksCodesUptoRow.holds Tryd.pinned (OpenSpec.upto ranksCodesSpec)

/-- 'sketchstorelaw11.RanksBounds', WHERE WHAT IT READS IS OF BULK AT MOST 1048576: true; the input reads as it did. -/
def ranksBoundsUptoRow : OpenClaim := { program := "ytdifilhfmbpalaadoor", sum := "ba5b8596e2f1f81955873401badb3e421c224db647f0c6df01343e039f43e3be", func := "sketchstore/sketchstorelaw11.RanksBounds", spec := "ranksBounds", unfollowed := true, recurses := true, named := ["math/bits.deBruijn64tab"], apart := false, laid := [("math/bits.deBruijn64tab", laid_math_bits_deBruijn64tab)], narrowed := true }
def RanksBoundsUptoSaid : Prop := ranksBoundsUptoRow.holds Tryd.pinned (OpenSpec.upto ranksBoundsSpec)

/-- 'sketchstorelaw11.RanksOrder', WHERE WHAT IT READS IS OF BULK AT MOST 1048576: true; the input reads as it did. -/
def ranksOrderUptoRow : OpenClaim := { program := "ytdifilhfmbpalaadoor", sum := "ba5b8596e2f1f81955873401badb3e421c224db647f0c6df01343e039f43e3be", func := "sketchstore/sketchstorelaw11.RanksOrder", spec := "ranksOrder", unfollowed := true, recurses := true, named := ["math/bits.deBruijn64tab"], apart := false, laid := [("math/bits.deBruijn64tab", laid_math_bits_deBruijn64tab)], narrowed := true }
def RanksOrderUptoSaid : Prop := ranksOrderUptoRow.holds Tryd.pinned (OpenSpec.upto ranksOrderSpec)

/-- 'sketchstorelaw11.RanksExact', WHERE WHAT IT READS IS OF BULK AT MOST 1048576: true; the input reads as it did. -/
def ranksExactUptoRow : OpenClaim := { program := "ytdifilhfmbpalaadoor", sum := "ba5b8596e2f1f81955873401badb3e421c224db647f0c6df01343e039f43e3be", func := "sketchstore/sketchstorelaw11.RanksExact", spec := "ranksExact", unfollowed := true, recurses := true, named := ["math/bits.deBruijn64tab"], apart := false, laid := [("math/bits.deBruijn64tab", laid_math_bits_deBruijn64tab)], narrowed := true }
def RanksExactUptoSaid : Prop := ranksExactUptoRow.holds Tryd.pinned (OpenSpec.upto ranksExactSpec)

end Rows
end Go.Proofs.YtdifilhfmbpalaaDoor
