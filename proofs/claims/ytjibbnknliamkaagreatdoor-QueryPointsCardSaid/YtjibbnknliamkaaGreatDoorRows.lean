/-
  NARROWER THAN 'FOR EVERY INPUT', by the rows' own cells (each row's printed sentence says how): QueryValidates: laid · QueryAnswers: laid · QueryEntries: laid · QueryPages: laid · QueryPoints: laid · QuerySupports: laid.
  DERIVED. THE GIVEN ROWS OF THIS SEAT. 6 by the template 'for every input the law returns true; each argument reads behind the call as it read before'; 0 by the template 'total and deterministic' (their statements: YtjibbnknliamkaaGreatDoorTotals.lean).
  GIVEN WITH THE SEED: the statements are not yours to turn. If you find one false, say at which input.
  Laid BY PROGRAM, IN A SANDBOX (cutbox-rows.mjs): the forced cells as the released guide's own fill.sh prints them over the translation ba152884bc78bac8… (all of the seat's roots in one cut). By AI agents, Wed Nov 11 2026. No macro, syntax, notation, axiom, sorry.
-/
import Derived.Test.YtjibbnknliamkaaGreatDoorChecked
import GoSem.Claim
import GoSem.ClaimJoined
import GoSem.ClaimMapViews
import Derived.JoinedTies
import Derived.KernelRfl
namespace Go.Proofs.YtjibbnknliamkaaGreatDoor
/- THE CELL 'sum', in the pinned program and in every row, IS THE sha256 OF THE DUMP (.gsa) THAT YtjibbnknliamkaaGreatDoorProg.lean LOADS. Nothing in Lean hashes anything: it is a label: what it is worth is what the hold of that sum in a sandbox is worth. -/
noncomputable def Tryz.pinned : Pinned := { name := "ytjibbnknliamkaagreatdoor", sum := "ba152884bc78bac8850ac85b6e92ac77a925db14dab3056b784280543db6fbc3", checked := Tryz.checked }
namespace Rows
def none {H : Type} : Left H := { results := [], args := [] }

/- WHAT THE LISTED PACKAGE-LEVEL VARIABLES READ AS WHEN THE CALL BEGINS. Each datum BY PROGRAM (the guide's laid-datum.mjs) off the statement by which the dump's own 'gosem.cut.vars' lays the variable. In a bare row this is a premise. The card (YtjibbnknliamkaaGreatDoorCards.lean) ties it to the program's text. -/
def laid_sketchstore_loglog_factors {H : Type} : DataW H := .agg [.lit (.int .i64 541000), .lit (.int .i64 627000), .lit (.int .i64 673000), .lit (.int .i64 697000), .lit (.int .i64 709000), .lit (.int .i64 715270), .lit (.int .i64 718271)]
def laid_sketchstore_query_supported {H : Type} : DataW H := .agg [.agg [.lit (.bool false), .lit (.bool false), .lit (.bool false), .lit (.bool false), .lit (.bool false), .lit (.bool false), .lit (.bool false)], .agg [.lit (.bool false), .lit (.bool true), .lit (.bool false), .lit (.bool false), .lit (.bool true), .lit (.bool true), .lit (.bool true)], .agg [.lit (.bool false), .lit (.bool false), .lit (.bool true), .lit (.bool false), .lit (.bool true), .lit (.bool true), .lit (.bool false)], .agg [.lit (.bool false), .lit (.bool false), .lit (.bool true), .lit (.bool true), .lit (.bool false), .lit (.bool false), .lit (.bool false)], .agg [.lit (.bool false), .lit (.bool false), .lit (.bool false), .lit (.bool true), .lit (.bool false), .lit (.bool false), .lit (.bool false)], .agg [.lit (.bool false), .lit (.bool false), .lit (.bool false), .lit (.bool false), .lit (.bool true), .lit (.bool true), .lit (.bool false)], .agg [.lit (.bool false), .lit (.bool false), .lit (.bool false), .lit (.bool false), .lit (.bool false), .lit (.bool false), .lit (.bool true)], .agg [.lit (.bool false), .lit (.bool false), .lit (.bool false), .lit (.bool false), .lit (.bool false), .lit (.bool false), .lit (.bool true)]]

/-- 'sketchstorelaw13.QueryValidates': WHATEVER THE INPUT: true; the input reads as it did. -/
def queryValidatesSpec : ChangeSpec := { name := "queryValidates", fn := fun _ => fun
  | [d1, d2] => { results := [.lit (.bool true)], args := [d1, d2] }
  | _ => none }
def queryValidatesRow : OpenClaim := { program := "ytjibbnknliamkaagreatdoor", sum := "ba152884bc78bac8850ac85b6e92ac77a925db14dab3056b784280543db6fbc3", func := "sketchstore/sketchstorelaw13.QueryValidates", spec := "queryValidates", inPlace := ["internal/bytealg.abigen_runtime_cmpstring"], unfollowed := true, recurses := true, named := ["sketchstore/query.supported", "sketchstore/loglog.factors", "math/bits.divideError", "math/bits.overflowError"], apart := false, laid := [("sketchstore/loglog.factors", laid_sketchstore_loglog_factors), ("sketchstore/query.supported", laid_sketchstore_query_supported)] }
def QueryValidatesSaid : Prop := queryValidatesRow.holds Tryz.pinned (OpenSpec.ofChange queryValidatesSpec)

/-- ITS FALSE NEIGHBOUR: 'it returns false'. Refute it at one input. -/
def queryValidatesWrong : ChangeSpec := { name := "queryValidates", fn := fun _ => fun
  | [d1, d2] => { results := [.lit (.bool false)], args := [d1, d2] }
  | _ => none }
def QueryValidatesWrongFalsely : Prop := queryValidatesRow.holds Tryz.pinned (OpenSpec.ofChange queryValidatesWrong)

/-- 'sketchstorelaw13.QueryAnswers': WHATEVER THE INPUT: true; the input reads as it did. -/
def queryAnswersSpec : ChangeSpec := { name := "queryAnswers", fn := fun _ => fun
  | [d1, d2, d3] => { results := [.lit (.bool true)], args := [d1, d2, d3] }
  | _ => none }
def queryAnswersRow : OpenClaim := { program := "ytjibbnknliamkaagreatdoor", sum := "ba152884bc78bac8850ac85b6e92ac77a925db14dab3056b784280543db6fbc3", func := "sketchstore/sketchstorelaw13.QueryAnswers", spec := "queryAnswers", inPlace := ["internal/bytealg.abigen_runtime_cmpstring"], unfollowed := true, recurses := true, named := ["sketchstore/query.supported", "sketchstore/loglog.factors", "math/bits.divideError", "math/bits.overflowError"], apart := false, laid := [("sketchstore/loglog.factors", laid_sketchstore_loglog_factors), ("sketchstore/query.supported", laid_sketchstore_query_supported)] }
def QueryAnswersSaid : Prop := queryAnswersRow.holds Tryz.pinned (OpenSpec.ofChange queryAnswersSpec)

/-- ITS FALSE NEIGHBOUR: 'it returns false'. Refute it at one input. -/
def queryAnswersWrong : ChangeSpec := { name := "queryAnswers", fn := fun _ => fun
  | [d1, d2, d3] => { results := [.lit (.bool false)], args := [d1, d2, d3] }
  | _ => none }
def QueryAnswersWrongFalsely : Prop := queryAnswersRow.holds Tryz.pinned (OpenSpec.ofChange queryAnswersWrong)

/-- 'sketchstorelaw13.QueryEntries': WHATEVER THE INPUT: true; the input reads as it did. -/
def queryEntriesSpec : ChangeSpec := { name := "queryEntries", fn := fun _ => fun
  | [d1, d2] => { results := [.lit (.bool true)], args := [d1, d2] }
  | _ => none }
def queryEntriesRow : OpenClaim := { program := "ytjibbnknliamkaagreatdoor", sum := "ba152884bc78bac8850ac85b6e92ac77a925db14dab3056b784280543db6fbc3", func := "sketchstore/sketchstorelaw13.QueryEntries", spec := "queryEntries", inPlace := ["internal/bytealg.abigen_runtime_cmpstring"], unfollowed := true, recurses := true, named := ["sketchstore/query.supported", "sketchstore/loglog.factors", "math/bits.divideError", "math/bits.overflowError"], apart := false, laid := [("sketchstore/loglog.factors", laid_sketchstore_loglog_factors), ("sketchstore/query.supported", laid_sketchstore_query_supported)] }
def QueryEntriesSaid : Prop := queryEntriesRow.holds Tryz.pinned (OpenSpec.ofChange queryEntriesSpec)

/-- ITS FALSE NEIGHBOUR: 'it returns false'. Refute it at one input. -/
def queryEntriesWrong : ChangeSpec := { name := "queryEntries", fn := fun _ => fun
  | [d1, d2] => { results := [.lit (.bool false)], args := [d1, d2] }
  | _ => none }
def QueryEntriesWrongFalsely : Prop := queryEntriesRow.holds Tryz.pinned (OpenSpec.ofChange queryEntriesWrong)

/-- 'sketchstorelaw13.QueryPages': WHATEVER THE INPUT: true; the input reads as it did. -/
def queryPagesSpec : ChangeSpec := { name := "queryPages", fn := fun _ => fun
  | [d1, d2] => { results := [.lit (.bool true)], args := [d1, d2] }
  | _ => none }
def queryPagesRow : OpenClaim := { program := "ytjibbnknliamkaagreatdoor", sum := "ba152884bc78bac8850ac85b6e92ac77a925db14dab3056b784280543db6fbc3", func := "sketchstore/sketchstorelaw13.QueryPages", spec := "queryPages", inPlace := ["internal/bytealg.abigen_runtime_cmpstring"], unfollowed := true, recurses := true, named := ["sketchstore/query.supported", "sketchstore/loglog.factors", "math/bits.divideError", "math/bits.overflowError"], apart := false, laid := [("sketchstore/loglog.factors", laid_sketchstore_loglog_factors), ("sketchstore/query.supported", laid_sketchstore_query_supported)] }
def QueryPagesSaid : Prop := queryPagesRow.holds Tryz.pinned (OpenSpec.ofChange queryPagesSpec)

/-- ITS FALSE NEIGHBOUR: 'it returns false'. Refute it at one input. -/
def queryPagesWrong : ChangeSpec := { name := "queryPages", fn := fun _ => fun
  | [d1, d2] => { results := [.lit (.bool false)], args := [d1, d2] }
  | _ => none }
def QueryPagesWrongFalsely : Prop := queryPagesRow.holds Tryz.pinned (OpenSpec.ofChange queryPagesWrong)

/-- 'sketchstorelaw13.QueryPoints': WHATEVER THE INPUT: true; the input reads as it did. -/
def queryPointsSpec : ChangeSpec := { name := "queryPoints", fn := fun _ => fun
  | [d1, d2] => { results := [.lit (.bool true)], args := [d1, d2] }
  | _ => none }
def queryPointsRow : OpenClaim := { program := "ytjibbnknliamkaagreatdoor", sum := "ba152884bc78bac8850ac85b6e92ac77a925db14dab3056b784280543db6fbc3", func := "sketchstore/sketchstorelaw13.QueryPoints", spec := "queryPoints", inPlace := ["internal/bytealg.abigen_runtime_cmpstring"], unfollowed := true, recurses := true, named := ["sketchstore/query.supported", "sketchstore/loglog.factors", "math/bits.divideError", "math/bits.overflowError"], apart := false, laid := [("sketchstore/loglog.factors", laid_sketchstore_loglog_factors), ("sketchstore/query.supported", laid_sketchstore_query_supported)] }
def QueryPointsSaid : Prop := queryPointsRow.holds Tryz.pinned (OpenSpec.ofChange queryPointsSpec)

/-- ITS FALSE NEIGHBOUR: 'it returns false'. Refute it at one input. -/
def queryPointsWrong : ChangeSpec := { name := "queryPoints", fn := fun _ => fun
  | [d1, d2] => { results := [.lit (.bool false)], args := [d1, d2] }
  | _ => none }
def QueryPointsWrongFalsely : Prop := queryPointsRow.holds Tryz.pinned (OpenSpec.ofChange queryPointsWrong)

/-- 'sketchstorelaw13.QuerySupports': WHATEVER THE INPUT: true; the input reads as it did. -/
def querySupportsSpec : ChangeSpec := { name := "querySupports", fn := fun _ => fun
  | [d1, d2] => { results := [.lit (.bool true)], args := [d1, d2] }
  | _ => none }
def querySupportsRow : OpenClaim := { program := "ytjibbnknliamkaagreatdoor", sum := "ba152884bc78bac8850ac85b6e92ac77a925db14dab3056b784280543db6fbc3", func := "sketchstore/sketchstorelaw13.QuerySupports", spec := "querySupports", inPlace := ["internal/bytealg.abigen_runtime_cmpstring"], unfollowed := true, recurses := true, named := ["sketchstore/query.supported", "sketchstore/loglog.factors", "math/bits.divideError", "math/bits.overflowError"], apart := false, laid := [("sketchstore/loglog.factors", laid_sketchstore_loglog_factors), ("sketchstore/query.supported", laid_sketchstore_query_supported)] }
def QuerySupportsSaid : Prop := querySupportsRow.holds Tryz.pinned (OpenSpec.ofChange querySupportsSpec)

/-- ITS FALSE NEIGHBOUR: 'it returns false'. Refute it at one input. -/
def querySupportsWrong : ChangeSpec := { name := "querySupports", fn := fun _ => fun
  | [d1, d2] => { results := [.lit (.bool false)], args := [d1, d2] }
  | _ => none }
def QuerySupportsWrongFalsely : Prop := querySupportsRow.holds Tryz.pinned (OpenSpec.ofChange querySupportsWrong)

/- THE SECOND FORM. 'bulk': how many values and letters a reading holds, each counted each time it is reached (what is shared counts as often as it is met; a slice's spare places count too). A statement '..UptoSaid' is the law's where the arguments, and the package variables that the reading takes, are together of bulk at most 1048576: NARROWER than '..Said'. Prove '..Said' where nothing that the law and all that it calls make is longer than what came in: it says more and counts as full. Else prove '..UptoSaid'. A law counts once. -/
mutual
def uptoBulk {H : Type} : DataW H → Nat
  | .lit (.string bytes) => bytes.length + 1
  | .lit _ => 1
  | .nil => 1
  | .ptr d => uptoBulk d + 1
  | .slice elems spare => uptoBulkAll elems + uptoBulkAll spare + 1
  | .agg parts => uptoBulkAll parts + 1
  | .iface _ d => uptoBulk d + 1
  | .map entries => uptoBulkEntries entries + 1
  | .held _ => 1
def uptoBulkAll {H : Type} : List (DataW H) → Nat
  | [] => 0
  | d :: r => uptoBulk d + uptoBulkAll r
def uptoBulkEntries {H : Type} : List (Lit × DataW H) → Nat
  | [] => 0
  | x :: r => uptoBulkEntry x + uptoBulkEntries r
def uptoBulkEntry {H : Type} : Lit × DataW H → Nat
  | (.string bytes, d) => bytes.length + uptoBulk d + 1
  | (_, d) => uptoBulk d + 1
 end
def uptoSmall : (H : Type) → List (DataW H) → Bool := fun _ ds => decide (uptoBulkAll ds ≤ 1048576)
def OpenSpec.upto (s : _root_.Go.ChangeSpec) : _root_.Go.OpenSpec := { _root_.Go.OpenSpec.ofChange s with cond := some uptoSmall }

/-- 'sketchstorelaw13.QueryValidates', WHERE WHAT IT READS IS OF BULK AT MOST 1048576: true; the input reads as it did. -/
def queryValidatesUptoRow : OpenClaim := { program := "ytjibbnknliamkaagreatdoor", sum := "ba152884bc78bac8850ac85b6e92ac77a925db14dab3056b784280543db6fbc3", func := "sketchstore/sketchstorelaw13.QueryValidates", spec := "queryValidates", inPlace := ["internal/bytealg.abigen_runtime_cmpstring"], unfollowed := true, recurses := true, named := ["sketchstore/query.supported", "sketchstore/loglog.factors", "math/bits.divideError", "math/bits.overflowError"], apart := false, laid := [("sketchstore/loglog.factors", laid_sketchstore_loglog_factors), ("sketchstore/query.supported", laid_sketchstore_query_supported)], narrowed := true }
def QueryValidatesUptoSaid : Prop := queryValidatesUptoRow.holds Tryz.pinned (OpenSpec.upto queryValidatesSpec)

/-- 'sketchstorelaw13.QueryAnswers', WHERE WHAT IT READS IS OF BULK AT MOST 1048576: true; the input reads as it did. -/
def queryAnswersUptoRow : OpenClaim := { program := "ytjibbnknliamkaagreatdoor", sum := "ba152884bc78bac8850ac85b6e92ac77a925db14dab3056b784280543db6fbc3", func := "sketchstore/sketchstorelaw13.QueryAnswers", spec := "queryAnswers", inPlace := ["internal/bytealg.abigen_runtime_cmpstring"], unfollowed := true, recurses := true, named := ["sketchstore/query.supported", "sketchstore/loglog.factors", "math/bits.divideError", "math/bits.overflowError"], apart := false, laid := [("sketchstore/loglog.factors", laid_sketchstore_loglog_factors), ("sketchstore/query.supported", laid_sketchstore_query_supported)], narrowed := true }
def QueryAnswersUptoSaid : Prop := queryAnswersUptoRow.holds Tryz.pinned (OpenSpec.upto queryAnswersSpec)

/-- 'sketchstorelaw13.QueryEntries', WHERE WHAT IT READS IS OF BULK AT MOST 1048576: true; the input reads as it did. -/
def queryEntriesUptoRow : OpenClaim := { program := "ytjibbnknliamkaagreatdoor", sum := "ba152884bc78bac8850ac85b6e92ac77a925db14dab3056b784280543db6fbc3", func := "sketchstore/sketchstorelaw13.QueryEntries", spec := "queryEntries", inPlace := ["internal/bytealg.abigen_runtime_cmpstring"], unfollowed := true, recurses := true, named := ["sketchstore/query.supported", "sketchstore/loglog.factors", "math/bits.divideError", "math/bits.overflowError"], apart := false, laid := [("sketchstore/loglog.factors", laid_sketchstore_loglog_factors), ("sketchstore/query.supported", laid_sketchstore_query_supported)], narrowed := true }
def QueryEntriesUptoSaid : Prop := queryEntriesUptoRow.holds Tryz.pinned (OpenSpec.upto queryEntriesSpec)

/-- 'sketchstorelaw13.QueryPages', WHERE WHAT IT READS IS OF BULK AT MOST 1048576: true; the input reads as it did. -/
def queryPagesUptoRow : OpenClaim := { program := "ytjibbnknliamkaagreatdoor", sum := "ba152884bc78bac8850ac85b6e92ac77a925db14dab3056b784280543db6fbc3", func := "sketchstore/sketchstorelaw13.QueryPages", spec := "queryPages", inPlace := ["internal/bytealg.abigen_runtime_cmpstring"], unfollowed := true, recurses := true, named := ["sketchstore/query.supported", "sketchstore/loglog.factors", "math/bits.divideError", "math/bits.overflowError"], apart := false, laid := [("sketchstore/loglog.factors", laid_sketchstore_loglog_factors), ("sketchstore/query.supported", laid_sketchstore_query_supported)], narrowed := true }
def QueryPagesUptoSaid : Prop := queryPagesUptoRow.holds Tryz.pinned (OpenSpec.upto queryPagesSpec)

/-- 'sketchstorelaw13.QueryPoints', WHERE WHAT IT READS IS OF BULK AT MOST 1048576: true; the input reads as it did. -/
def queryPointsUptoRow : OpenClaim := { program := "ytjibbnknliamkaagreatdoor", sum := "ba152884bc78bac8850ac85b6e92ac77a925db14dab3056b784280543db6fbc3", func := "sketchstore/sketchstorelaw13.QueryPoints", spec := "queryPoints", inPlace := ["internal/bytealg.abigen_runtime_cmpstring"], unfollowed := true, recurses := true, named := ["sketchstore/query.supported", "sketchstore/loglog.factors", "math/bits.divideError", "math/bits.overflowError"], apart := false, laid := [("sketchstore/loglog.factors", laid_sketchstore_loglog_factors), ("sketchstore/query.supported", laid_sketchstore_query_supported)], narrowed := true }
def QueryPointsUptoSaid : Prop := queryPointsUptoRow.holds Tryz.pinned (OpenSpec.upto queryPointsSpec)

/-- 'sketchstorelaw13.QuerySupports', WHERE WHAT IT READS IS OF BULK AT MOST 1048576: true; the input reads as it did. -/
def querySupportsUptoRow : OpenClaim := { program := "ytjibbnknliamkaagreatdoor", sum := "ba152884bc78bac8850ac85b6e92ac77a925db14dab3056b784280543db6fbc3", func := "sketchstore/sketchstorelaw13.QuerySupports", spec := "querySupports", inPlace := ["internal/bytealg.abigen_runtime_cmpstring"], unfollowed := true, recurses := true, named := ["sketchstore/query.supported", "sketchstore/loglog.factors", "math/bits.divideError", "math/bits.overflowError"], apart := false, laid := [("sketchstore/loglog.factors", laid_sketchstore_loglog_factors), ("sketchstore/query.supported", laid_sketchstore_query_supported)], narrowed := true }
def QuerySupportsUptoSaid : Prop := querySupportsUptoRow.holds Tryz.pinned (OpenSpec.upto querySupportsSpec)

end Rows
end Go.Proofs.YtjibbnknliamkaaGreatDoor
