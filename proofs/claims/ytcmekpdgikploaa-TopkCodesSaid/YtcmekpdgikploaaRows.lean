/-
  No cell of these rows narrows 'for every input' (looked for: loops, veiled, ifaces, maps, wideKeys, modest, calm, conditions, laid).
  DERIVED. THE GIVEN ROWS OF THIS SEAT. 6 by the template 'for every input the law returns true; each argument reads behind the call as it read before'; 0 by the template 'total and deterministic' (their statements: YtcmekpdgikploaaTotals.lean).
  GIVEN WITH THE SEED: the statements are not yours to turn. If you find one false, say at which input.
  Laid BY PROGRAM, IN A SANDBOX (cutbox-rows.mjs): the forced cells as the released guide's own fill.sh prints them over the translation 19894936f0a66db2… (all of the seat's roots in one cut). By AI agents, Wed Nov 11 2026. No macro, syntax, notation, axiom, sorry.
-/
import Derived.Test.YtcmekpdgikploaaChecked
import GoSem.Claim
import GoSem.ClaimJoined
import GoSem.ClaimMapViews
import Derived.JoinedTies
import Derived.KernelRfl
namespace Go.Proofs.Ytcmekpdgikploaa
/- THE CELL 'sum', in the pinned program and in every row, IS THE sha256 OF THE DUMP (.gsa) THAT YtcmekpdgikploaaProg.lean LOADS. Nothing in Lean hashes anything: it is a label: what it is worth is what the hold of that sum in a sandbox is worth. -/
noncomputable def Try.pinned : Pinned := { name := "ytcmekpdgikploaa", sum := "19894936f0a66db2ba04b039872b5bda8bb91b3e5ba06dbf835baad935524d88", checked := Try.checked }
namespace Rows
def none {H : Type} : Left H := { results := [], args := [] }

/-- 'sketchstorelaw9.TopkInserts': WHATEVER THE INPUT: true; the input reads as it did. -/
def topkInsertsSpec : ChangeSpec := { name := "topkInserts", fn := fun _ => fun
  | [d1, d2, d3] => { results := [.lit (.bool true)], args := [d1, d2, d3] }
  | _ => none }
def topkInsertsRow : OpenClaim := { program := "ytcmekpdgikploaa", sum := "19894936f0a66db2ba04b039872b5bda8bb91b3e5ba06dbf835baad935524d88", func := "sketchstore/sketchstorelaw9.TopkInserts", spec := "topkInserts", inPlace := ["internal/bytealg.abigen_runtime_cmpstring"], unfollowed := true, recurses := true, apart := false }
def TopkInsertsSaid : Prop := topkInsertsRow.holds Try.pinned (OpenSpec.ofChange topkInsertsSpec)

/-- ITS FALSE NEIGHBOUR: 'it returns false'. Refute it at one input. -/
def topkInsertsWrong : ChangeSpec := { name := "topkInserts", fn := fun _ => fun
  | [d1, d2, d3] => { results := [.lit (.bool false)], args := [d1, d2, d3] }
  | _ => none }
def TopkInsertsWrongFalsely : Prop := topkInsertsRow.holds Try.pinned (OpenSpec.ofChange topkInsertsWrong)

/-- 'sketchstorelaw9.TopkMerges': WHATEVER THE INPUT: true; the input reads as it did. -/
def topkMergesSpec : ChangeSpec := { name := "topkMerges", fn := fun _ => fun
  | [d1, d2, d3, d4] => { results := [.lit (.bool true)], args := [d1, d2, d3, d4] }
  | _ => none }
def topkMergesRow : OpenClaim := { program := "ytcmekpdgikploaa", sum := "19894936f0a66db2ba04b039872b5bda8bb91b3e5ba06dbf835baad935524d88", func := "sketchstore/sketchstorelaw9.TopkMerges", spec := "topkMerges", inPlace := ["internal/bytealg.abigen_runtime_cmpstring"], unfollowed := true, recurses := true, apart := false }
def TopkMergesSaid : Prop := topkMergesRow.holds Try.pinned (OpenSpec.ofChange topkMergesSpec)

/-- ITS FALSE NEIGHBOUR: 'it returns false'. Refute it at one input. -/
def topkMergesWrong : ChangeSpec := { name := "topkMerges", fn := fun _ => fun
  | [d1, d2, d3, d4] => { results := [.lit (.bool false)], args := [d1, d2, d3, d4] }
  | _ => none }
def TopkMergesWrongFalsely : Prop := topkMergesRow.holds Try.pinned (OpenSpec.ofChange topkMergesWrong)

/-- 'sketchstorelaw9.TopkCodes': WHATEVER THE INPUT: true; the input reads as it did. -/
def topkCodesSpec : ChangeSpec := { name := "topkCodes", fn := fun _ => fun
  | [d1, d2, d3, d4] => { results := [.lit (.bool true)], args := [d1, d2, d3, d4] }
  | _ => none }
def topkCodesRow : OpenClaim := { program := "ytcmekpdgikploaa", sum := "19894936f0a66db2ba04b039872b5bda8bb91b3e5ba06dbf835baad935524d88", func := "sketchstore/sketchstorelaw9.TopkCodes", spec := "topkCodes", inPlace := ["internal/bytealg.abigen_runtime_cmpstring"], unfollowed := true, recurses := true, apart := false }
def TopkCodesSaid : Prop := topkCodesRow.holds Try.pinned (OpenSpec.ofChange topkCodesSpec)

/-- ITS FALSE NEIGHBOUR: 'it returns false'. Refute it at one input. -/
def topkCodesWrong : ChangeSpec := { name := "topkCodes", fn := fun _ => fun
  | [d1, d2, d3, d4] => { results := [.lit (.bool false)], args := [d1, d2, d3, d4] }
  | _ => none }
def TopkCodesWrongFalsely : Prop := topkCodesRow.holds Try.pinned (OpenSpec.ofChange topkCodesWrong)

/-- 'sketchstorelaw9.TopkBounds': WHATEVER THE INPUT: true; the input reads as it did. -/
def topkBoundsSpec : ChangeSpec := { name := "topkBounds", fn := fun _ => fun
  | [d1, d2, d3, d4] => { results := [.lit (.bool true)], args := [d1, d2, d3, d4] }
  | _ => none }
def topkBoundsRow : OpenClaim := { program := "ytcmekpdgikploaa", sum := "19894936f0a66db2ba04b039872b5bda8bb91b3e5ba06dbf835baad935524d88", func := "sketchstore/sketchstorelaw9.TopkBounds", spec := "topkBounds", inPlace := ["internal/bytealg.abigen_runtime_cmpstring"], unfollowed := true, recurses := true, apart := false }
def TopkBoundsSaid : Prop := topkBoundsRow.holds Try.pinned (OpenSpec.ofChange topkBoundsSpec)

/-- ITS FALSE NEIGHBOUR: 'it returns false'. Refute it at one input. -/
def topkBoundsWrong : ChangeSpec := { name := "topkBounds", fn := fun _ => fun
  | [d1, d2, d3, d4] => { results := [.lit (.bool false)], args := [d1, d2, d3, d4] }
  | _ => none }
def TopkBoundsWrongFalsely : Prop := topkBoundsRow.holds Try.pinned (OpenSpec.ofChange topkBoundsWrong)

/-- 'sketchstorelaw9.TopkHeavy': WHATEVER THE INPUT: true; the input reads as it did. -/
def topkHeavySpec : ChangeSpec := { name := "topkHeavy", fn := fun _ => fun
  | [d1, d2] => { results := [.lit (.bool true)], args := [d1, d2] }
  | _ => none }
def topkHeavyRow : OpenClaim := { program := "ytcmekpdgikploaa", sum := "19894936f0a66db2ba04b039872b5bda8bb91b3e5ba06dbf835baad935524d88", func := "sketchstore/sketchstorelaw9.TopkHeavy", spec := "topkHeavy", inPlace := ["internal/bytealg.abigen_runtime_cmpstring"], unfollowed := true, recurses := true, apart := false }
def TopkHeavySaid : Prop := topkHeavyRow.holds Try.pinned (OpenSpec.ofChange topkHeavySpec)

/-- ITS FALSE NEIGHBOUR: 'it returns false'. Refute it at one input. -/
def topkHeavyWrong : ChangeSpec := { name := "topkHeavy", fn := fun _ => fun
  | [d1, d2] => { results := [.lit (.bool false)], args := [d1, d2] }
  | _ => none }
def TopkHeavyWrongFalsely : Prop := topkHeavyRow.holds Try.pinned (OpenSpec.ofChange topkHeavyWrong)

/-- 'sketchstorelaw9.TopkCommutes': WHATEVER THE INPUT: true; the input reads as it did. -/
def topkCommutesSpec : ChangeSpec := { name := "topkCommutes", fn := fun _ => fun
  | [d1, d2, d3] => { results := [.lit (.bool true)], args := [d1, d2, d3] }
  | _ => none }
def topkCommutesRow : OpenClaim := { program := "ytcmekpdgikploaa", sum := "19894936f0a66db2ba04b039872b5bda8bb91b3e5ba06dbf835baad935524d88", func := "sketchstore/sketchstorelaw9.TopkCommutes", spec := "topkCommutes", inPlace := ["internal/bytealg.abigen_runtime_cmpstring"], unfollowed := true, recurses := true, apart := false }
def TopkCommutesSaid : Prop := topkCommutesRow.holds Try.pinned (OpenSpec.ofChange topkCommutesSpec)

/-- ITS FALSE NEIGHBOUR: 'it returns false'. Refute it at one input. -/
def topkCommutesWrong : ChangeSpec := { name := "topkCommutes", fn := fun _ => fun
  | [d1, d2, d3] => { results := [.lit (.bool false)], args := [d1, d2, d3] }
  | _ => none }
def TopkCommutesWrongFalsely : Prop := topkCommutesRow.holds Try.pinned (OpenSpec.ofChange topkCommutesWrong)

/- THE SECOND FORM. 'bulk': how many values and letters a reading holds, each counted each time it is reached (what is shared counts as often as it is met; a slice's spare places count too). A statement '..UptoSaid' is the law's where the arguments, and the package variables that the reading takes, are together of bulk at most 1048576: NARROWER than '..Said'. Prove '..Said' where nothing that the law and all that it calls make is longer than what came in: it says more and counts as full. Else prove '..UptoSaid'. A law counts once. -/
mutual
def uptoBulk {H : Type} : DataW H → Nat
  | .lit (.string bytes) => bytes.length + 1
  | .lit _ => 1
  | .nil => 1
  | .ptr d => uptoBulk d + 1
  | .slice elems spare => uptoBulkAll elems + uptoBulkAll spare + 1
  | .agg parts => uptoBulkAll parts + 1
  | .iface _ d => uptoBulk d + 1
  | .map entries => uptoBulkEntries entries + 1
  | .held _ => 1
def uptoBulkAll {H : Type} : List (DataW H) → Nat
  | [] => 0
  | d :: r => uptoBulk d + uptoBulkAll r
def uptoBulkEntries {H : Type} : List (Lit × DataW H) → Nat
  | [] => 0
  | x :: r => uptoBulkEntry x + uptoBulkEntries r
def uptoBulkEntry {H : Type} : Lit × DataW H → Nat
  | (.string bytes, d) => bytes.length + uptoBulk d + 1
  | (_, d) => uptoBulk d + 1
 end
def uptoSmall : (H : Type) → List (DataW H) → Bool := fun _ ds => decide (uptoBulkAll ds ≤ 1048576)
def OpenSpec.upto (s : _root_.Go.ChangeSpec) : _root_.Go.OpenSpec := { _root_.Go.OpenSpec.ofChange s with cond := some uptoSmall }

/-- 'sketchstorelaw9.TopkInserts', WHERE WHAT IT READS IS OF BULK AT MOST 1048576: true; the input reads as it did. -/
def topkInsertsUptoRow : OpenClaim := { program := "ytcmekpdgikploaa", sum := "19894936f0a66db2ba04b039872b5bda8bb91b3e5ba06dbf835baad935524d88", func := "sketchstore/sketchstorelaw9.TopkInserts", spec := "topkInserts", inPlace := ["internal/bytealg.abigen_runtime_cmpstring"], unfollowed := true, recurses := true, apart := false, narrowed := true }
def TopkInsertsUptoSaid : Prop := topkInsertsUptoRow.holds Try.pinned (OpenSpec.upto topkInsertsSpec)

/-- 'sketchstorelaw9.TopkMerges', WHERE WHAT IT READS IS OF BULK AT MOST 1048576: true; the input reads as it did. -/
def topkMergesUptoRow : OpenClaim := { program := "ytcmekpdgikploaa", sum := "19894936f0a66db2ba04b039872b5bda8bb91b3e5ba06dbf835baad935524d88", func := "sketchstore/sketchstorelaw9.TopkMerges", spec := "topkMerges", inPlace := ["internal/bytealg.abigen_runtime_cmpstring"], unfollowed := true, recurses := true, apart := false, narrowed := true }
def TopkMergesUptoSaid : Prop := topkMergesUptoRow.holds Try.pinned (OpenSpec.upto topkMergesSpec)

/-- 'sketchstorelaw9.TopkCodes', WHERE WHAT IT READS IS OF BULK AT MOST 1048576: true; the input reads as it did. -/
def topkCodesUptoRow : OpenClaim := { program := "ytcmekpdgikploaa", sum := "19894936f0a66db2ba04b039872b5bda8bb91b3e5ba06dbf835baad935524d88", func := "sketchstore/sketchstorelaw9.TopkCodes", spec := "topkCodes", inPlace := ["internal/bytealg.abigen_runtime_cmpstring"], unfollowed := true, recurses := true, apart := false, narrowed := true }
def TopkCodesUptoSaid : Prop := topkCodesUptoRow.holds Try.pinned (OpenSpec.upto topkCodesSpec)

/-- 'sketchstorelaw9.TopkBounds', WHERE WHAT IT READS IS OF BULK AT MOST 1048576: true; the input reads as it did. -/
def topkBoundsUptoRow : OpenClaim := { program := "ytcmekpdgikploaa", sum := "19894936f0a66db2ba04b039872b5bda8bb91b3e5ba06dbf835baad935524d88", func := "sketchstore/sketchstorelaw9.TopkBounds", spec := "topkBounds", inPlace := ["internal/bytealg.abigen_runtime_cmpstring"], unfollowed := true, recurses := true, apart := false, narrowed := true }
def TopkBoundsUptoSaid : Prop := topkBoundsUptoRow.holds Try.pinned (OpenSpec.upto topkBoundsSpec)

/-- 'sketchstorelaw9.TopkHeavy', WHERE WHAT IT READS IS OF BULK AT MOST 1048576: true; the input reads as it did. -/
def topkHeavyUptoRow : OpenClaim := { program := "ytcmekpdgikploaa", sum := "19894936f0a66db2ba04b039872b5bda8bb91b3e5ba06dbf835baad935524d88", func := "sketchstore/sketchstorelaw9.TopkHeavy", spec := "topkHeavy", inPlace := ["internal/bytealg.abigen_runtime_cmpstring"], unfollowed := true, recurses := true, apart := false, narrowed := true }
def TopkHeavyUptoSaid : Prop := topkHeavyUptoRow.holds Try.pinned (OpenSpec.upto topkHeavySpec)

/-- 'sketchstorelaw9.TopkCommutes', WHERE WHAT IT READS IS OF BULK AT MOST 1048576: true; the input reads as it did. -/
def topkCommutesUptoRow : OpenClaim := { program := "ytcmekpdgikploaa", sum := "19894936f0a66db2ba04b039872b5bda8bb91b3e5ba06dbf835baad935524d88", func := "sketchstore/sketchstorelaw9.TopkCommutes", spec := "topkCommutes", inPlace := ["internal/bytealg.abigen_runtime_cmpstring"], unfollowed := true, recurses := true, apart := false, narrowed := true }
def TopkCommutesUptoSaid : Prop := topkCommutesUptoRow.holds Try.pinned (OpenSpec.upto topkCommutesSpec)

end Rows
end Go.Proofs.Ytcmekpdgikploaa
