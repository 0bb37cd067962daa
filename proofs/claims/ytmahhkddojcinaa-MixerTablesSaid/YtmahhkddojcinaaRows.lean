/-
  No cell of these rows narrows 'for every input' (looked for: loops, veiled, ifaces, maps, wideKeys, modest, calm, conditions, laid).
  DERIVED. THE GIVEN ROWS OF THIS SEAT. 5 by the template 'for every input the law returns true; each argument reads behind the call as it read before'; 0 by the template 'total and deterministic' (their statements: YtmahhkddojcinaaTotals.lean).
  GIVEN WITH THE SEED: the statements are not yours to turn. If you find one false, say at which input.
  Laid BY PROGRAM, IN A SANDBOX (cutbox-rows.mjs): the forced cells as the released guide's own fill.sh prints them over the translation 23f28c43e84762fc… (all of the seat's roots in one cut). By AI agents, Wed Nov 11 2026. No macro, syntax, notation, axiom, sorry.
-/
import Derived.Test.YtmahhkddojcinaaChecked
import GoSem.Claim
import GoSem.ClaimJoined
import GoSem.ClaimMapViews
import Derived.JoinedTies
import Derived.KernelRfl
namespace Go.Proofs.Ytmahhkddojcinaa
/- THE CELL 'sum', in the pinned program and in every row, IS THE sha256 OF THE DUMP (.gsa) THAT YtmahhkddojcinaaProg.lean LOADS. Nothing in Lean hashes anything: it is a label: what it is worth is what the hold of that sum in a sandbox is worth. -/
noncomputable def Try.pinned : Pinned := { name := "ytmahhkddojcinaa", sum := "23f28c43e84762fc337d053b855a5e422b8569070cd17a2e05b493d474307f74", checked := Try.checked }
namespace Rows
def none {H : Type} : Left H := { results := [], args := [] }

/-- 'sketchstorelaw2.MixerWords': WHATEVER THE INPUT: true; the input reads as it did. -/
def mixerWordsSpec : ChangeSpec := { name := "mixerWords", fn := fun _ => fun
  | [d1, d2] => { results := [.lit (.bool true)], args := [d1, d2] }
  | _ => none }
def mixerWordsRow : OpenClaim := { program := "ytmahhkddojcinaa", sum := "23f28c43e84762fc337d053b855a5e422b8569070cd17a2e05b493d474307f74", func := "sketchstore/sketchstorelaw2.MixerWords", spec := "mixerWords", apart := false }
def MixerWordsSaid : Prop := mixerWordsRow.holds Try.pinned (OpenSpec.ofChange mixerWordsSpec)

/-- ITS FALSE NEIGHBOUR: 'it returns false'. Refute it at one input. -/
def mixerWordsWrong : ChangeSpec := { name := "mixerWords", fn := fun _ => fun
  | [d1, d2] => { results := [.lit (.bool false)], args := [d1, d2] }
  | _ => none }
def MixerWordsWrongFalsely : Prop := mixerWordsRow.holds Try.pinned (OpenSpec.ofChange mixerWordsWrong)

/-- 'sketchstorelaw2.MixerTables': WHATEVER THE INPUT: true; the input reads as it did. -/
def mixerTablesSpec : ChangeSpec := { name := "mixerTables", fn := fun _ => fun
  | [d] => { results := [.lit (.bool true)], args := [d] }
  | _ => none }
def mixerTablesRow : OpenClaim := { program := "ytmahhkddojcinaa", sum := "23f28c43e84762fc337d053b855a5e422b8569070cd17a2e05b493d474307f74", func := "sketchstore/sketchstorelaw2.MixerTables", spec := "mixerTables", apart := false }
def MixerTablesSaid : Prop := mixerTablesRow.holds Try.pinned (OpenSpec.ofChange mixerTablesSpec)

/-- ITS FALSE NEIGHBOUR: 'it returns false'. Refute it at one input. -/
def mixerTablesWrong : ChangeSpec := { name := "mixerTables", fn := fun _ => fun
  | [d] => { results := [.lit (.bool false)], args := [d] }
  | _ => none }
def MixerTablesWrongFalsely : Prop := mixerTablesRow.holds Try.pinned (OpenSpec.ofChange mixerTablesWrong)

/-- 'sketchstorelaw2.MixerHashes': WHATEVER THE INPUT: true; the input reads as it did. -/
def mixerHashesSpec : ChangeSpec := { name := "mixerHashes", fn := fun _ => fun
  | [d1, d2] => { results := [.lit (.bool true)], args := [d1, d2] }
  | _ => none }
def mixerHashesRow : OpenClaim := { program := "ytmahhkddojcinaa", sum := "23f28c43e84762fc337d053b855a5e422b8569070cd17a2e05b493d474307f74", func := "sketchstore/sketchstorelaw2.MixerHashes", spec := "mixerHashes", apart := false }
def MixerHashesSaid : Prop := mixerHashesRow.holds Try.pinned (OpenSpec.ofChange mixerHashesSpec)

/-- ITS FALSE NEIGHBOUR: 'it returns false'. Refute it at one input. -/
def mixerHashesWrong : ChangeSpec := { name := "mixerHashes", fn := fun _ => fun
  | [d1, d2] => { results := [.lit (.bool false)], args := [d1, d2] }
  | _ => none }
def MixerHashesWrongFalsely : Prop := mixerHashesRow.holds Try.pinned (OpenSpec.ofChange mixerHashesWrong)

/-- 'sketchstorelaw2.MixerShapes': WHATEVER THE INPUT: true; the input reads as it did. -/
def mixerShapesSpec : ChangeSpec := { name := "mixerShapes", fn := fun _ => fun
  | [d1, d2, d3] => { results := [.lit (.bool true)], args := [d1, d2, d3] }
  | _ => none }
def mixerShapesRow : OpenClaim := { program := "ytmahhkddojcinaa", sum := "23f28c43e84762fc337d053b855a5e422b8569070cd17a2e05b493d474307f74", func := "sketchstore/sketchstorelaw2.MixerShapes", spec := "mixerShapes", apart := false }
def MixerShapesSaid : Prop := mixerShapesRow.holds Try.pinned (OpenSpec.ofChange mixerShapesSpec)

/-- ITS FALSE NEIGHBOUR: 'it returns false'. Refute it at one input. -/
def mixerShapesWrong : ChangeSpec := { name := "mixerShapes", fn := fun _ => fun
  | [d1, d2, d3] => { results := [.lit (.bool false)], args := [d1, d2, d3] }
  | _ => none }
def MixerShapesWrongFalsely : Prop := mixerShapesRow.holds Try.pinned (OpenSpec.ofChange mixerShapesWrong)

/-- 'sketchstorelaw2.MixerInjective': WHATEVER THE INPUT: true; the input reads as it did. -/
def mixerInjectiveSpec : ChangeSpec := { name := "mixerInjective", fn := fun _ => fun
  | [d1, d2] => { results := [.lit (.bool true)], args := [d1, d2] }
  | _ => none }
def mixerInjectiveRow : OpenClaim := { program := "ytmahhkddojcinaa", sum := "23f28c43e84762fc337d053b855a5e422b8569070cd17a2e05b493d474307f74", func := "sketchstore/sketchstorelaw2.MixerInjective", spec := "mixerInjective", apart := false }
def MixerInjectiveSaid : Prop := mixerInjectiveRow.holds Try.pinned (OpenSpec.ofChange mixerInjectiveSpec)

/-- ITS FALSE NEIGHBOUR: 'it returns false'. Refute it at one input. -/
def mixerInjectiveWrong : ChangeSpec := { name := "mixerInjective", fn := fun _ => fun
  | [d1, d2] => { results := [.lit (.bool false)], args := [d1, d2] }
  | _ => none }
def MixerInjectiveWrongFalsely : Prop := mixerInjectiveRow.holds Try.pinned (OpenSpec.ofChange mixerInjectiveWrong)

/- THE SECOND FORM. 'bulk': how many values and letters a reading holds, each counted each time it is reached (what is shared counts as often as it is met; a slice's spare places count too). A statement '..UptoSaid' is the law's where the arguments, and the package variables that the reading takes, are together of bulk at most 1048576: NARROWER than '..Said'. Prove '..Said' where nothing that the law and all that it calls make is longer than what came in: it says more and counts as full. Else prove '..UptoSaid'. A law counts once. -/
mutual
def uptoBulk {H : Type} : DataW H → Nat
  | .lit (.string bytes) => bytes.length + 1
  | .lit _ => 1
  | .nil => 1
  | .ptr d => uptoBulk d + 1
  | .slice elems spare => uptoBulkAll elems + uptoBulkAll spare + 1
  | .agg parts => uptoBulkAll parts + 1
  | .iface _ d => uptoBulk d + 1
  | .map entries => uptoBulkEntries entries + 1
  | .held _ => 1
def uptoBulkAll {H : Type} : List (DataW H) → Nat
  | [] => 0
  | d :: r => uptoBulk d + uptoBulkAll r
def uptoBulkEntries {H : Type} : List (Lit × DataW H) → Nat
  | [] => 0
  | x :: r => uptoBulkEntry x + uptoBulkEntries r
def uptoBulkEntry {H : Type} : Lit × DataW H → Nat
  | (.string bytes, d) => bytes.length + uptoBulk d + 1
  | (_, d) => uptoBulk d + 1
 end
def uptoSmall : (H : Type) → List (DataW H) → Bool := fun _ ds => decide (uptoBulkAll ds ≤ 1048576)
def OpenSpec.upto (s : _root_.Go.ChangeSpec) : _root_.Go.OpenSpec := { _root_.Go.OpenSpec.ofChange s with cond := some uptoSmall }

/-- 'sketchstorelaw2.MixerWords', WHERE WHAT IT READS IS OF BULK AT MOST 1048576: true; the input reads as it did. -/
def mixerWordsUptoRow : OpenClaim := { program := "ytmahhkddojcinaa", sum := "23f28c43e84762fc337d053b855a5e422b8569070cd17a2e05b493d474307f74", func := "sketchstore/sketchstorelaw2.MixerWords", spec := "mixerWords", apart := false, narrowed := true }
def MixerWordsUptoSaid : Prop := mixerWordsUptoRow.holds Try.pinned (OpenSpec.upto mixerWordsSpec)

/-- 'sketchstorelaw2.MixerTables', WHERE WHAT IT READS IS OF BULK AT MOST 1048576: true; the input reads as it did. -/
def mixerTablesUptoRow : OpenClaim := { program := "ytmahhkddojcinaa", sum := "23f28c43e84762fc337d053b855a5e422b8569070cd17a2e05b493d474307f74", func := "sketchstore/sketchstorelaw2.MixerTables", spec := "mixerTables", apart := false, narrowed := true }
def MixerTablesUptoSaid : Prop := mixerTablesUptoRow.holds Try.pinned (OpenSpec.upto mixerTablesSpec)

/-- 'sketchstorelaw2.MixerHashes', WHERE WHAT IT READS IS OF BULK AT MOST 1048576: true; the input reads as it did. -/
def mixerHashesUptoRow : OpenClaim := { program := "ytmahhkddojcinaa", sum := "23f28c43e84762fc337d053b855a5e422b8569070cd17a2e05b493d474307f74", func := "sketchstore/sketchstorelaw2.MixerHashes", spec := "mixerHashes", apart := false, narrowed := true }
def MixerHashesUptoSaid : Prop := mixerHashesUptoRow.holds Try.pinned (OpenSpec.upto mixerHashesSpec)

/-- 'sketchstorelaw2.MixerShapes', WHERE WHAT IT READS IS OF BULK AT MOST 1048576: true; the input reads as it did. -/
def mixerShapesUptoRow : OpenClaim := { program := "ytmahhkddojcinaa", sum := "23f28c43e84762fc337d053b855a5e422b8569070cd17a2e05b493d474307f74", func := "sketchstore/sketchstorelaw2.MixerShapes", spec := "mixerShapes", apart := false, narrowed := true }
def MixerShapesUptoSaid : Prop := mixerShapesUptoRow.holds Try.pinned (OpenSpec.upto mixerShapesSpec)

/-- 'sketchstorelaw2.MixerInjective', WHERE WHAT IT READS IS OF BULK AT MOST 1048576: true; the input reads as it did. -/
def mixerInjectiveUptoRow : OpenClaim := { program := "ytmahhkddojcinaa", sum := "23f28c43e84762fc337d053b855a5e422b8569070cd17a2e05b493d474307f74", func := "sketchstore/sketchstorelaw2.MixerInjective", spec := "mixerInjective", apart := false, narrowed := true }
def MixerInjectiveUptoSaid : Prop := mixerInjectiveUptoRow.holds Try.pinned (OpenSpec.upto mixerInjectiveSpec)

end Rows
end Go.Proofs.Ytmahhkddojcinaa
