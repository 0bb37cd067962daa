/-
  No cell of these rows narrows 'for every input' (looked for: loops, veiled, ifaces, maps, wideKeys, modest, calm, conditions, laid).
  DERIVED. THE GIVEN ROWS OF THIS SEAT. 5 by the template 'for every input the law returns true; each argument reads behind the call as it read before'; 0 by the template 'total and deterministic' (their statements: YtjpinnoolnhphaaTotals.lean).
  GIVEN WITH THE SEED: the statements are not yours to turn. If you find one false, say at which input.
  Laid BY PROGRAM, IN A SANDBOX (cutbox-rows.mjs): the forced cells as the released guide's own fill.sh prints them over the translation fbf89a0a98e93950… (all of the seat's roots in one cut). By AI agents, Wed Nov 11 2026. No macro, syntax, notation, axiom, sorry.
-/
import Derived.Test.YtjpinnoolnhphaaChecked
import GoSem.Claim
import GoSem.ClaimJoined
import GoSem.ClaimMapViews
import Derived.JoinedTies
import Derived.KernelRfl
namespace Go.Proofs.Ytjpinnoolnhphaa
/- THE CELL 'sum', in the pinned program and in every row, IS THE sha256 OF THE DUMP (.gsa) THAT YtjpinnoolnhphaaProg.lean LOADS. Nothing in Lean hashes anything: it is a label: what it is worth is what the hold of that sum in a sandbox is worth. -/
noncomputable def Try.pinned : Pinned := { name := "ytjpinnoolnhphaa", sum := "fbf89a0a98e9395029ff2b4293b402acdebfba995e93e69050118d08a1895e36", checked := Try.checked }
namespace Rows
def none {H : Type} : Left H := { results := [], args := [] }

/-- 'sketchstorelaw6.TallyInserts': WHATEVER THE INPUT: true; the input reads as it did. -/
def tallyInsertsSpec : ChangeSpec := { name := "tallyInserts", fn := fun _ => fun
  | [d1, d2, d3] => { results := [.lit (.bool true)], args := [d1, d2, d3] }
  | _ => none }
def tallyInsertsRow : OpenClaim := { program := "ytjpinnoolnhphaa", sum := "fbf89a0a98e9395029ff2b4293b402acdebfba995e93e69050118d08a1895e36", func := "sketchstore/sketchstorelaw6.TallyInserts", spec := "tallyInserts", apart := false }
def TallyInsertsSaid : Prop := tallyInsertsRow.holds Try.pinned (OpenSpec.ofChange tallyInsertsSpec)

/-- ITS FALSE NEIGHBOUR: 'it returns false'. Refute it at one input. -/
def tallyInsertsWrong : ChangeSpec := { name := "tallyInserts", fn := fun _ => fun
  | [d1, d2, d3] => { results := [.lit (.bool false)], args := [d1, d2, d3] }
  | _ => none }
def TallyInsertsWrongFalsely : Prop := tallyInsertsRow.holds Try.pinned (OpenSpec.ofChange tallyInsertsWrong)

/-- 'sketchstorelaw6.TallyMerges': WHATEVER THE INPUT: true; the input reads as it did. -/
def tallyMergesSpec : ChangeSpec := { name := "tallyMerges", fn := fun _ => fun
  | [d1, d2, d3, d4] => { results := [.lit (.bool true)], args := [d1, d2, d3, d4] }
  | _ => none }
def tallyMergesRow : OpenClaim := { program := "ytjpinnoolnhphaa", sum := "fbf89a0a98e9395029ff2b4293b402acdebfba995e93e69050118d08a1895e36", func := "sketchstore/sketchstorelaw6.TallyMerges", spec := "tallyMerges", apart := false }
def TallyMergesSaid : Prop := tallyMergesRow.holds Try.pinned (OpenSpec.ofChange tallyMergesSpec)

/-- ITS FALSE NEIGHBOUR: 'it returns false'. Refute it at one input. -/
def tallyMergesWrong : ChangeSpec := { name := "tallyMerges", fn := fun _ => fun
  | [d1, d2, d3, d4] => { results := [.lit (.bool false)], args := [d1, d2, d3, d4] }
  | _ => none }
def TallyMergesWrongFalsely : Prop := tallyMergesRow.holds Try.pinned (OpenSpec.ofChange tallyMergesWrong)

/-- 'sketchstorelaw6.TallyCodes': WHATEVER THE INPUT: true; the input reads as it did. -/
def tallyCodesSpec : ChangeSpec := { name := "tallyCodes", fn := fun _ => fun
  | [d1, d2, d3] => { results := [.lit (.bool true)], args := [d1, d2, d3] }
  | _ => none }
def tallyCodesRow : OpenClaim := { program := "ytjpinnoolnhphaa", sum := "fbf89a0a98e9395029ff2b4293b402acdebfba995e93e69050118d08a1895e36", func := "sketchstore/sketchstorelaw6.TallyCodes", spec := "tallyCodes", apart := false }
def TallyCodesSaid : Prop := tallyCodesRow.holds Try.pinned (OpenSpec.ofChange tallyCodesSpec)

/-- ITS FALSE NEIGHBOUR: 'it returns false'. Refute it at one input. -/
def tallyCodesWrong : ChangeSpec := { name := "tallyCodes", fn := fun _ => fun
  | [d1, d2, d3] => { results := [.lit (.bool false)], args := [d1, d2, d3] }
  | _ => none }
def TallyCodesWrongFalsely : Prop := tallyCodesRow.holds Try.pinned (OpenSpec.ofChange tallyCodesWrong)

/-- 'sketchstorelaw6.TallyUnion': WHATEVER THE INPUT: true; the input reads as it did. -/
def tallyUnionSpec : ChangeSpec := { name := "tallyUnion", fn := fun _ => fun
  | [d1, d2] => { results := [.lit (.bool true)], args := [d1, d2] }
  | _ => none }
def tallyUnionRow : OpenClaim := { program := "ytjpinnoolnhphaa", sum := "fbf89a0a98e9395029ff2b4293b402acdebfba995e93e69050118d08a1895e36", func := "sketchstore/sketchstorelaw6.TallyUnion", spec := "tallyUnion", apart := false }
def TallyUnionSaid : Prop := tallyUnionRow.holds Try.pinned (OpenSpec.ofChange tallyUnionSpec)

/-- ITS FALSE NEIGHBOUR: 'it returns false'. Refute it at one input. -/
def tallyUnionWrong : ChangeSpec := { name := "tallyUnion", fn := fun _ => fun
  | [d1, d2] => { results := [.lit (.bool false)], args := [d1, d2] }
  | _ => none }
def TallyUnionWrongFalsely : Prop := tallyUnionRow.holds Try.pinned (OpenSpec.ofChange tallyUnionWrong)

/-- 'sketchstorelaw6.TallyGroups': WHATEVER THE INPUT: true; the input reads as it did. -/
def tallyGroupsSpec : ChangeSpec := { name := "tallyGroups", fn := fun _ => fun
  | [d1, d2, d3] => { results := [.lit (.bool true)], args := [d1, d2, d3] }
  | _ => none }
def tallyGroupsRow : OpenClaim := { program := "ytjpinnoolnhphaa", sum := "fbf89a0a98e9395029ff2b4293b402acdebfba995e93e69050118d08a1895e36", func := "sketchstore/sketchstorelaw6.TallyGroups", spec := "tallyGroups", apart := false }
def TallyGroupsSaid : Prop := tallyGroupsRow.holds Try.pinned (OpenSpec.ofChange tallyGroupsSpec)

/-- ITS FALSE NEIGHBOUR: 'it returns false'. Refute it at one input. -/
def tallyGroupsWrong : ChangeSpec := { name := "tallyGroups", fn := fun _ => fun
  | [d1, d2, d3] => { results := [.lit (.bool false)], args := [d1, d2, d3] }
  | _ => none }
def TallyGroupsWrongFalsely : Prop := tallyGroupsRow.holds Try.pinned (OpenSpec.ofChange tallyGroupsWrong)

/- THE SECOND FORM. 'bulk': how many values and letters a reading holds, each counted each time it is reached (what is shared counts as often as it is met; a slice's spare places count too). A statement '..UptoSaid' is the law's where the arguments, and the package variables that the reading takes, are together of bulk at most 1048576: NARROWER than '..Said'. Prove '..Said' where nothing that the law and all that it calls make is longer than what came in: it says more and counts as full. Else prove '..UptoSaid'. A law counts once. -/
mutual
def uptoBulk {H : Type} : DataW H → Nat
  | .lit (.string bytes) => bytes.length + 1
  | .lit _ => 1
  | .nil => 1
  | .ptr d => uptoBulk d + 1
  | .slice elems spare => uptoBulkAll elems + uptoBulkAll spare + 1
  | .agg parts => uptoBulkAll parts + 1
  | .iface _ d => uptoBulk d + 1
  | .map entries => uptoBulkEntries entries + 1
  | .held _ => 1
def uptoBulkAll {H : Type} : List (DataW H) → Nat
  | [] => 0
  | d :: r => uptoBulk d + uptoBulkAll r
def uptoBulkEntries {H : Type} : List (Lit × DataW H) → Nat
  | [] => 0
  | x :: r => uptoBulkEntry x + uptoBulkEntries r
def uptoBulkEntry {H : Type} : Lit × DataW H → Nat
  | (.string bytes, d) => bytes.length + uptoBulk d + 1
  | (_, d) => uptoBulk d + 1
 end
def uptoSmall : (H : Type) → List (DataW H) → Bool := fun _ ds => decide (uptoBulkAll ds ≤ 1048576)
def OpenSpec.upto (s : _root_.Go.ChangeSpec) : _root_.Go.OpenSpec := { _root_.Go.OpenSpec.ofChange s with cond := some uptoSmall }

/-- 'sketchstorelaw6.TallyInserts', WHERE WHAT IT READS IS OF BULK AT MOST 1048576: true; the input reads as it did. -/
def tallyInsertsUptoRow : OpenClaim := { program := "ytjpinnoolnhphaa", sum := "fbf89a0a98e9395029ff2b4293b402acdebfba995e93e69050118d08a1895e36", func := "sketchstore/sketchstorelaw6.TallyInserts", spec := "tallyInserts", apart := false, narrowed := true }
def TallyInsertsUptoSaid : Prop := tallyInsertsUptoRow.holds Try.pinned (OpenSpec.upto tallyInsertsSpec)

/-- 'sketchstorelaw6.TallyMerges', WHERE WHAT IT READS IS OF BULK AT MOST 1048576: true; the input reads as it did. -/
def tallyMergesUptoRow : OpenClaim := { program := "ytjpinnoolnhphaa", sum := "fbf89a0a98e9395029ff2b4293b402acdebfba995e93e69050118d08a1895e36", func := "sketchstore/sketchstorelaw6.TallyMerges", spec := "tallyMerges", apart := false, narrowed := true }
def TallyMergesUptoSaid : Prop := tallyMergesUptoRow.holds Try.pinned (OpenSpec.upto tallyMergesSpec)

/-- 'sketchstorelaw6.TallyCodes', WHERE WHAT IT READS IS OF BULK AT MOST 1048576: true; the input reads as it did. -/
def tallyCodesUptoRow : OpenClaim := { program := "ytjpinnoolnhphaa", sum := "fbf89a0a98e9395029ff2b4293b402acdebfba995e93e69050118d08a1895e36", func := "sketchstore/sketchstorelaw6.TallyCodes", spec := "tallyCodes", apart := false, narrowed := true }
def TallyCodesUptoSaid : Prop := tallyCodesUptoRow.holds Try.pinned (OpenSpec.upto tallyCodesSpec)

/-- 'sketchstorelaw6.TallyUnion', WHERE WHAT IT READS IS OF BULK AT MOST 1048576: true; the input reads as it did. -/
def tallyUnionUptoRow : OpenClaim := { program := "ytjpinnoolnhphaa", sum := "fbf89a0a98e9395029ff2b4293b402acdebfba995e93e69050118d08a1895e36", func := "sketchstore/sketchstorelaw6.TallyUnion", spec := "tallyUnion", apart := false, narrowed := true }
def TallyUnionUptoSaid : Prop := tallyUnionUptoRow.holds Try.pinned (OpenSpec.upto tallyUnionSpec)

/-- 'sketchstorelaw6.TallyGroups', WHERE WHAT IT READS IS OF BULK AT MOST 1048576: true; the input reads as it did. -/
def tallyGroupsUptoRow : OpenClaim := { program := "ytjpinnoolnhphaa", sum := "fbf89a0a98e9395029ff2b4293b402acdebfba995e93e69050118d08a1895e36", func := "sketchstore/sketchstorelaw6.TallyGroups", spec := "tallyGroups", apart := false, narrowed := true }
def TallyGroupsUptoSaid : Prop := tallyGroupsUptoRow.holds Try.pinned (OpenSpec.upto tallyGroupsSpec)

end Rows
end Go.Proofs.Ytjpinnoolnhphaa
