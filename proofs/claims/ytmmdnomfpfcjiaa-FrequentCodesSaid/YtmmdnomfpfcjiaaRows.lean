/-
  No cell of these rows narrows 'for every input' (looked for: loops, veiled, ifaces, maps, wideKeys, modest, calm, conditions, laid).
  DERIVED. THE GIVEN ROWS OF THIS SEAT. 5 by the template 'for every input the law returns true; each argument reads behind the call as it read before'; 0 by the template 'total and deterministic' (their statements: YtmmdnomfpfcjiaaTotals.lean).
  GIVEN WITH THE SEED: the statements are not yours to turn. If you find one false, say at which input.
  Laid BY PROGRAM, IN A SANDBOX (cutbox-rows.mjs): the forced cells as the released guide's own fill.sh prints them over the translation 7e240c27b9f4683e… (all of the seat's roots in one cut). By AI agents, Wed Nov 11 2026. No macro, syntax, notation, axiom, sorry.
-/
import Derived.Test.YtmmdnomfpfcjiaaChecked
import GoSem.Claim
import GoSem.ClaimJoined
import GoSem.ClaimMapViews
import Derived.JoinedTies
import Derived.KernelRfl
namespace Go.Proofs.Ytmmdnomfpfcjiaa
/- THE CELL 'sum', in the pinned program and in every row, IS THE sha256 OF THE DUMP (.gsa) THAT YtmmdnomfpfcjiaaProg.lean LOADS. Nothing in Lean hashes anything: it is a label: what it is worth is what the hold of that sum in a sandbox is worth. -/
noncomputable def Try.pinned : Pinned := { name := "ytmmdnomfpfcjiaa", sum := "7e240c27b9f4683e578be4bfd453c87955d60fda2a763ed024ebffdc90ec74cb", checked := Try.checked }
namespace Rows
def none {H : Type} : Left H := { results := [], args := [] }

/-- 'sketchstorelaw10.FrequentInserts': WHATEVER THE INPUT: true; the input reads as it did. -/
def frequentInsertsSpec : ChangeSpec := { name := "frequentInserts", fn := fun _ => fun
  | [d1, d2, d3] => { results := [.lit (.bool true)], args := [d1, d2, d3] }
  | _ => none }
def frequentInsertsRow : OpenClaim := { program := "ytmmdnomfpfcjiaa", sum := "7e240c27b9f4683e578be4bfd453c87955d60fda2a763ed024ebffdc90ec74cb", func := "sketchstore/sketchstorelaw10.FrequentInserts", spec := "frequentInserts", inPlace := ["internal/bytealg.abigen_runtime_cmpstring"], recurses := true, apart := false }
def FrequentInsertsSaid : Prop := frequentInsertsRow.holds Try.pinned (OpenSpec.ofChange frequentInsertsSpec)

/-- ITS FALSE NEIGHBOUR: 'it returns false'. Refute it at one input. -/
def frequentInsertsWrong : ChangeSpec := { name := "frequentInserts", fn := fun _ => fun
  | [d1, d2, d3] => { results := [.lit (.bool false)], args := [d1, d2, d3] }
  | _ => none }
def FrequentInsertsWrongFalsely : Prop := frequentInsertsRow.holds Try.pinned (OpenSpec.ofChange frequentInsertsWrong)

/-- 'sketchstorelaw10.FrequentMerges': WHATEVER THE INPUT: true; the input reads as it did. -/
def frequentMergesSpec : ChangeSpec := { name := "frequentMerges", fn := fun _ => fun
  | [d1, d2, d3, d4] => { results := [.lit (.bool true)], args := [d1, d2, d3, d4] }
  | _ => none }
def frequentMergesRow : OpenClaim := { program := "ytmmdnomfpfcjiaa", sum := "7e240c27b9f4683e578be4bfd453c87955d60fda2a763ed024ebffdc90ec74cb", func := "sketchstore/sketchstorelaw10.FrequentMerges", spec := "frequentMerges", inPlace := ["internal/bytealg.abigen_runtime_cmpstring"], recurses := true, apart := false }
def FrequentMergesSaid : Prop := frequentMergesRow.holds Try.pinned (OpenSpec.ofChange frequentMergesSpec)

/-- ITS FALSE NEIGHBOUR: 'it returns false'. Refute it at one input. -/
def frequentMergesWrong : ChangeSpec := { name := "frequentMerges", fn := fun _ => fun
  | [d1, d2, d3, d4] => { results := [.lit (.bool false)], args := [d1, d2, d3, d4] }
  | _ => none }
def FrequentMergesWrongFalsely : Prop := frequentMergesRow.holds Try.pinned (OpenSpec.ofChange frequentMergesWrong)

/-- 'sketchstorelaw10.FrequentCodes': WHATEVER THE INPUT: true; the input reads as it did. -/
def frequentCodesSpec : ChangeSpec := { name := "frequentCodes", fn := fun _ => fun
  | [d1, d2, d3, d4] => { results := [.lit (.bool true)], args := [d1, d2, d3, d4] }
  | _ => none }
def frequentCodesRow : OpenClaim := { program := "ytmmdnomfpfcjiaa", sum := "7e240c27b9f4683e578be4bfd453c87955d60fda2a763ed024ebffdc90ec74cb", func := "sketchstore/sketchstorelaw10.FrequentCodes", spec := "frequentCodes", inPlace := ["internal/bytealg.abigen_runtime_cmpstring"], recurses := true, apart := false }
def FrequentCodesSaid : Prop := frequentCodesRow.holds Try.pinned (OpenSpec.ofChange frequentCodesSpec)

/-- ITS FALSE NEIGHBOUR: 'it returns false'. Refute it at one input. -/
def frequentCodesWrong : ChangeSpec := { name := "frequentCodes", fn := fun _ => fun
  | [d1, d2, d3, d4] => { results := [.lit (.bool false)], args := [d1, d2, d3, d4] }
  | _ => none }
def FrequentCodesWrongFalsely : Prop := frequentCodesRow.holds Try.pinned (OpenSpec.ofChange frequentCodesWrong)

/-- 'sketchstorelaw10.FrequentBounds': WHATEVER THE INPUT: true; the input reads as it did. -/
def frequentBoundsSpec : ChangeSpec := { name := "frequentBounds", fn := fun _ => fun
  | [d1, d2, d3, d4] => { results := [.lit (.bool true)], args := [d1, d2, d3, d4] }
  | _ => none }
def frequentBoundsRow : OpenClaim := { program := "ytmmdnomfpfcjiaa", sum := "7e240c27b9f4683e578be4bfd453c87955d60fda2a763ed024ebffdc90ec74cb", func := "sketchstore/sketchstorelaw10.FrequentBounds", spec := "frequentBounds", inPlace := ["internal/bytealg.abigen_runtime_cmpstring"], unfollowed := true, recurses := true, apart := false }
def FrequentBoundsSaid : Prop := frequentBoundsRow.holds Try.pinned (OpenSpec.ofChange frequentBoundsSpec)

/-- ITS FALSE NEIGHBOUR: 'it returns false'. Refute it at one input. -/
def frequentBoundsWrong : ChangeSpec := { name := "frequentBounds", fn := fun _ => fun
  | [d1, d2, d3, d4] => { results := [.lit (.bool false)], args := [d1, d2, d3, d4] }
  | _ => none }
def FrequentBoundsWrongFalsely : Prop := frequentBoundsRow.holds Try.pinned (OpenSpec.ofChange frequentBoundsWrong)

/-- 'sketchstorelaw10.FrequentCommutes': WHATEVER THE INPUT: true; the input reads as it did. -/
def frequentCommutesSpec : ChangeSpec := { name := "frequentCommutes", fn := fun _ => fun
  | [d1, d2, d3] => { results := [.lit (.bool true)], args := [d1, d2, d3] }
  | _ => none }
def frequentCommutesRow : OpenClaim := { program := "ytmmdnomfpfcjiaa", sum := "7e240c27b9f4683e578be4bfd453c87955d60fda2a763ed024ebffdc90ec74cb", func := "sketchstore/sketchstorelaw10.FrequentCommutes", spec := "frequentCommutes", inPlace := ["internal/bytealg.abigen_runtime_cmpstring"], recurses := true, apart := false }
def FrequentCommutesSaid : Prop := frequentCommutesRow.holds Try.pinned (OpenSpec.ofChange frequentCommutesSpec)

/-- ITS FALSE NEIGHBOUR: 'it returns false'. Refute it at one input. -/
def frequentCommutesWrong : ChangeSpec := { name := "frequentCommutes", fn := fun _ => fun
  | [d1, d2, d3] => { results := [.lit (.bool false)], args := [d1, d2, d3] }
  | _ => none }
def FrequentCommutesWrongFalsely : Prop := frequentCommutesRow.holds Try.pinned (OpenSpec.ofChange frequentCommutesWrong)

/- THE SECOND FORM. 'bulk': how many values and letters a reading holds, each counted each time it is reached (what is shared counts as often as it is met; a slice's spare places count too). A statement '..UptoSaid' is the law's where the arguments, and the package variables that the reading takes, are together of bulk at most 1048576: NARROWER than '..Said'. Prove '..Said' where nothing that the law and all that it calls make is longer than what came in: it says more and counts as full. Else prove '..UptoSaid'. A law counts once. -/
mutual
def uptoBulk {H : Type} : DataW H → Nat
  | .lit (.string bytes) => bytes.length + 1
  | .lit _ => 1
  | .nil => 1
  | .ptr d => uptoBulk d + 1
  | .slice elems spare => uptoBulkAll elems + uptoBulkAll spare + 1
  | .agg parts => uptoBulkAll parts + 1
  | .iface _ d => uptoBulk d + 1
  | .map entries => uptoBulkEntries entries + 1
  | .held _ => 1
def uptoBulkAll {H : Type} : List (DataW H) → Nat
  | [] => 0
  | d :: r => uptoBulk d + uptoBulkAll r
def uptoBulkEntries {H : Type} : List (Lit × DataW H) → Nat
  | [] => 0
  | x :: r => uptoBulkEntry x + uptoBulkEntries r
def uptoBulkEntry {H : Type} : Lit × DataW H → Nat
  | (.string bytes, d) => bytes.length + uptoBulk d + 1
  | (_, d) => uptoBulk d + 1
 end
def uptoSmall : (H : Type) → List (DataW H) → Bool := fun _ ds => decide (uptoBulkAll ds ≤ 1048576)
def OpenSpec.upto (s : _root_.Go.ChangeSpec) : _root_.Go.OpenSpec := { _root_.Go.OpenSpec.ofChange s with cond := some uptoSmall }

/-- 'sketchstorelaw10.FrequentInserts', WHERE WHAT IT READS IS OF BULK AT MOST 1048576: true; the input reads as it did. -/
def frequentInsertsUptoRow : OpenClaim := { program := "ytmmdnomfpfcjiaa", sum := "7e240c27b9f4683e578be4bfd453c87955d60fda2a763ed024ebffdc90ec74cb", func := "sketchstore/sketchstorelaw10.FrequentInserts", spec := "frequentInserts", inPlace := ["internal/bytealg.abigen_runtime_cmpstring"], recurses := true, apart := false, narrowed := true }
def FrequentInsertsUptoSaid : Prop := frequentInsertsUptoRow.holds Try.pinned (OpenSpec.upto frequentInsertsSpec)

/-- 'sketchstorelaw10.FrequentMerges', WHERE WHAT IT READS IS OF BULK AT MOST 1048576: true; the input reads as it did. -/
def frequentMergesUptoRow : OpenClaim := { program := "ytmmdnomfpfcjiaa", sum := "7e240c27b9f4683e578be4bfd453c87955d60fda2a763ed024ebffdc90ec74cb", func := "sketchstore/sketchstorelaw10.FrequentMerges", spec := "frequentMerges", inPlace := ["internal/bytealg.abigen_runtime_cmpstring"], recurses := true, apart := false, narrowed := true }
def FrequentMergesUptoSaid : Prop := frequentMergesUptoRow.holds Try.pinned (OpenSpec.upto frequentMergesSpec)

/-- 'sketchstorelaw10.FrequentCodes', WHERE WHAT IT READS IS OF BULK AT MOST 1048576: true; the input reads as it did. -/
def frequentCodesUptoRow : OpenClaim := { program := "ytmmdnomfpfcjiaa", sum := "7e240c27b9f4683e578be4bfd453c87955d60fda2a763ed024ebffdc90ec74cb", func := "sketchstore/sketchstorelaw10.FrequentCodes", spec := "frequentCodes", inPlace := ["internal/bytealg.abigen_runtime_cmpstring"], recurses := true, apart := false, narrowed := true }
def FrequentCodesUptoSaid : Prop := frequentCodesUptoRow.holds Try.pinned (OpenSpec.upto frequentCodesSpec)

/-- 'sketchstorelaw10.FrequentBounds', WHERE WHAT IT READS IS OF BULK AT MOST 1048576: true; the input reads as it did. -/
def frequentBoundsUptoRow : OpenClaim := { program := "ytmmdnomfpfcjiaa", sum := "7e240c27b9f4683e578be4bfd453c87955d60fda2a763ed024ebffdc90ec74cb", func := "sketchstore/sketchstorelaw10.FrequentBounds", spec := "frequentBounds", inPlace := ["internal/bytealg.abigen_runtime_cmpstring"], unfollowed := true, recurses := true, apart := false, narrowed := true }
def FrequentBoundsUptoSaid : Prop := frequentBoundsUptoRow.holds Try.pinned (OpenSpec.upto frequentBoundsSpec)

/-- 'sketchstorelaw10.FrequentCommutes', WHERE WHAT IT READS IS OF BULK AT MOST 1048576: true; the input reads as it did. -/
def frequentCommutesUptoRow : OpenClaim := { program := "ytmmdnomfpfcjiaa", sum := "7e240c27b9f4683e578be4bfd453c87955d60fda2a763ed024ebffdc90ec74cb", func := "sketchstore/sketchstorelaw10.FrequentCommutes", spec := "frequentCommutes", inPlace := ["internal/bytealg.abigen_runtime_cmpstring"], recurses := true, apart := false, narrowed := true }
def FrequentCommutesUptoSaid : Prop := frequentCommutesUptoRow.holds Try.pinned (OpenSpec.upto frequentCommutesSpec)

end Rows
end Go.Proofs.Ytmmdnomfpfcjiaa
