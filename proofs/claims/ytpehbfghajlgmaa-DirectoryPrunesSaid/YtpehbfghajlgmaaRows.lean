/-
  No cell of these rows narrows 'for every input' (looked for: loops, veiled, ifaces, maps, wideKeys, modest, calm, conditions, laid).
  DERIVED. THE GIVEN ROWS OF THIS SEAT. 4 by the template 'for every input the law returns true; each argument reads behind the call as it read before'; 0 by the template 'total and deterministic' (their statements: YtpehbfghajlgmaaTotals.lean).
  GIVEN WITH THE SEED: the statements are not yours to turn. If you find one false, say at which input.
  Laid BY PROGRAM, IN A SANDBOX (cutbox-rows.mjs): the forced cells as the released guide's own fill.sh prints them over the translation 86962c3e9c89658e… (all of the seat's roots in one cut). By AI agents, Wed Nov 11 2026. No macro, syntax, notation, axiom, sorry.
-/
import Derived.Test.YtpehbfghajlgmaaChecked
import GoSem.Claim
import GoSem.ClaimJoined
import GoSem.ClaimMapViews
import Derived.JoinedTies
import Derived.KernelRfl
namespace Go.Proofs.Ytpehbfghajlgmaa
/- THE CELL 'sum', in the pinned program and in every row, IS THE sha256 OF THE DUMP (.gsa) THAT YtpehbfghajlgmaaProg.lean LOADS. Nothing in Lean hashes anything: it is a label: what it is worth is what the hold of that sum in a sandbox is worth. -/
noncomputable def Try.pinned : Pinned := { name := "ytpehbfghajlgmaa", sum := "86962c3e9c89658e7ff29d68891216704f8e41673d451ce2851892e43adad780", checked := Try.checked }
namespace Rows
def none {H : Type} : Left H := { results := [], args := [] }

/-- 'sketchstorelaw18.DirectoryBinds': WHATEVER THE INPUT: true; the input reads as it did. -/
def directoryBindsSpec : ChangeSpec := { name := "directoryBinds", fn := fun _ => fun
  | [d1, d2, d3] => { results := [.lit (.bool true)], args := [d1, d2, d3] }
  | _ => none }
def directoryBindsRow : OpenClaim := { program := "ytpehbfghajlgmaa", sum := "86962c3e9c89658e7ff29d68891216704f8e41673d451ce2851892e43adad780", func := "sketchstore/sketchstorelaw18.DirectoryBinds", spec := "directoryBinds", inPlace := ["internal/bytealg.abigen_runtime_cmpstring", "slices.overlaps[sketchstore/api.Binding]"], unfollowed := true, recurses := true, apart := false }
def DirectoryBindsSaid : Prop := directoryBindsRow.holds Try.pinned (OpenSpec.ofChange directoryBindsSpec)

/-- ITS FALSE NEIGHBOUR: 'it returns false'. Refute it at one input. -/
def directoryBindsWrong : ChangeSpec := { name := "directoryBinds", fn := fun _ => fun
  | [d1, d2, d3] => { results := [.lit (.bool false)], args := [d1, d2, d3] }
  | _ => none }
def DirectoryBindsWrongFalsely : Prop := directoryBindsRow.holds Try.pinned (OpenSpec.ofChange directoryBindsWrong)

/-- 'sketchstorelaw18.DirectoryUnbinds': WHATEVER THE INPUT: true; the input reads as it did. -/
def directoryUnbindsSpec : ChangeSpec := { name := "directoryUnbinds", fn := fun _ => fun
  | [d1, d2] => { results := [.lit (.bool true)], args := [d1, d2] }
  | _ => none }
def directoryUnbindsRow : OpenClaim := { program := "ytpehbfghajlgmaa", sum := "86962c3e9c89658e7ff29d68891216704f8e41673d451ce2851892e43adad780", func := "sketchstore/sketchstorelaw18.DirectoryUnbinds", spec := "directoryUnbinds", inPlace := ["internal/bytealg.abigen_runtime_cmpstring", "slices.overlaps[sketchstore/api.Binding]"], unfollowed := true, recurses := true, apart := false }
def DirectoryUnbindsSaid : Prop := directoryUnbindsRow.holds Try.pinned (OpenSpec.ofChange directoryUnbindsSpec)

/-- ITS FALSE NEIGHBOUR: 'it returns false'. Refute it at one input. -/
def directoryUnbindsWrong : ChangeSpec := { name := "directoryUnbinds", fn := fun _ => fun
  | [d1, d2] => { results := [.lit (.bool false)], args := [d1, d2] }
  | _ => none }
def DirectoryUnbindsWrongFalsely : Prop := directoryUnbindsRow.holds Try.pinned (OpenSpec.ofChange directoryUnbindsWrong)

/-- 'sketchstorelaw18.DirectoryPast': WHATEVER THE INPUT: true; the input reads as it did. -/
def directoryPastSpec : ChangeSpec := { name := "directoryPast", fn := fun _ => fun
  | [d1, d2] => { results := [.lit (.bool true)], args := [d1, d2] }
  | _ => none }
def directoryPastRow : OpenClaim := { program := "ytpehbfghajlgmaa", sum := "86962c3e9c89658e7ff29d68891216704f8e41673d451ce2851892e43adad780", func := "sketchstore/sketchstorelaw18.DirectoryPast", spec := "directoryPast", inPlace := ["internal/bytealg.abigen_runtime_cmpstring", "slices.overlaps[sketchstore/api.Binding]"], unfollowed := true, recurses := true, apart := false }
def DirectoryPastSaid : Prop := directoryPastRow.holds Try.pinned (OpenSpec.ofChange directoryPastSpec)

/-- ITS FALSE NEIGHBOUR: 'it returns false'. Refute it at one input. -/
def directoryPastWrong : ChangeSpec := { name := "directoryPast", fn := fun _ => fun
  | [d1, d2] => { results := [.lit (.bool false)], args := [d1, d2] }
  | _ => none }
def DirectoryPastWrongFalsely : Prop := directoryPastRow.holds Try.pinned (OpenSpec.ofChange directoryPastWrong)

/-- 'sketchstorelaw18.DirectoryPrunes': WHATEVER THE INPUT: true; the input reads as it did. -/
def directoryPrunesSpec : ChangeSpec := { name := "directoryPrunes", fn := fun _ => fun
  | [d1, d2] => { results := [.lit (.bool true)], args := [d1, d2] }
  | _ => none }
def directoryPrunesRow : OpenClaim := { program := "ytpehbfghajlgmaa", sum := "86962c3e9c89658e7ff29d68891216704f8e41673d451ce2851892e43adad780", func := "sketchstore/sketchstorelaw18.DirectoryPrunes", spec := "directoryPrunes", inPlace := ["internal/bytealg.abigen_runtime_cmpstring", "slices.overlaps[sketchstore/api.Binding]"], unfollowed := true, recurses := true, apart := false }
def DirectoryPrunesSaid : Prop := directoryPrunesRow.holds Try.pinned (OpenSpec.ofChange directoryPrunesSpec)

/-- ITS FALSE NEIGHBOUR: 'it returns false'. Refute it at one input. -/
def directoryPrunesWrong : ChangeSpec := { name := "directoryPrunes", fn := fun _ => fun
  | [d1, d2] => { results := [.lit (.bool false)], args := [d1, d2] }
  | _ => none }
def DirectoryPrunesWrongFalsely : Prop := directoryPrunesRow.holds Try.pinned (OpenSpec.ofChange directoryPrunesWrong)

/- THE SECOND FORM. 'bulk': how many values and letters a reading holds, each counted each time it is reached (what is shared counts as often as it is met; a slice's spare places count too). A statement '..UptoSaid' is the law's where the arguments, and the package variables that the reading takes, are together of bulk at most 1048576: NARROWER than '..Said'. Prove '..Said' where nothing that the law and all that it calls make is longer than what came in: it says more and counts as full. Else prove '..UptoSaid'. A law counts once. -/
mutual
def uptoBulk {H : Type} : DataW H → Nat
  | .lit (.string bytes) => bytes.length + 1
  | .lit _ => 1
  | .nil => 1
  | .ptr d => uptoBulk d + 1
  | .slice elems spare => uptoBulkAll elems + uptoBulkAll spare + 1
  | .agg parts => uptoBulkAll parts + 1
  | .iface _ d => uptoBulk d + 1
  | .map entries => uptoBulkEntries entries + 1
  | .held _ => 1
def uptoBulkAll {H : Type} : List (DataW H) → Nat
  | [] => 0
  | d :: r => uptoBulk d + uptoBulkAll r
def uptoBulkEntries {H : Type} : List (Lit × DataW H) → Nat
  | [] => 0
  | x :: r => uptoBulkEntry x + uptoBulkEntries r
def uptoBulkEntry {H : Type} : Lit × DataW H → Nat
  | (.string bytes, d) => bytes.length + uptoBulk d + 1
  | (_, d) => uptoBulk d + 1
 end
def uptoSmall : (H : Type) → List (DataW H) → Bool := fun _ ds => decide (uptoBulkAll ds ≤ 1048576)
def OpenSpec.upto (s : _root_.Go.ChangeSpec) : _root_.Go.OpenSpec := { _root_.Go.OpenSpec.ofChange s with cond := some uptoSmall }

/-- 'sketchstorelaw18.DirectoryBinds', WHERE WHAT IT READS IS OF BULK AT MOST 1048576: true; the input reads as it did. -/
def directoryBindsUptoRow : OpenClaim := { program := "ytpehbfghajlgmaa", sum := "86962c3e9c89658e7ff29d68891216704f8e41673d451ce2851892e43adad780", func := "sketchstore/sketchstorelaw18.DirectoryBinds", spec := "directoryBinds", inPlace := ["internal/bytealg.abigen_runtime_cmpstring", "slices.overlaps[sketchstore/api.Binding]"], unfollowed := true, recurses := true, apart := false, narrowed := true }
def DirectoryBindsUptoSaid : Prop := directoryBindsUptoRow.holds Try.pinned (OpenSpec.upto directoryBindsSpec)

/-- 'sketchstorelaw18.DirectoryUnbinds', WHERE WHAT IT READS IS OF BULK AT MOST 1048576: true; the input reads as it did. -/
def directoryUnbindsUptoRow : OpenClaim := { program := "ytpehbfghajlgmaa", sum := "86962c3e9c89658e7ff29d68891216704f8e41673d451ce2851892e43adad780", func := "sketchstore/sketchstorelaw18.DirectoryUnbinds", spec := "directoryUnbinds", inPlace := ["internal/bytealg.abigen_runtime_cmpstring", "slices.overlaps[sketchstore/api.Binding]"], unfollowed := true, recurses := true, apart := false, narrowed := true }
def DirectoryUnbindsUptoSaid : Prop := directoryUnbindsUptoRow.holds Try.pinned (OpenSpec.upto directoryUnbindsSpec)

/-- 'sketchstorelaw18.DirectoryPast', WHERE WHAT IT READS IS OF BULK AT MOST 1048576: true; the input reads as it did. -/
def directoryPastUptoRow : OpenClaim := { program := "ytpehbfghajlgmaa", sum := "86962c3e9c89658e7ff29d68891216704f8e41673d451ce2851892e43adad780", func := "sketchstore/sketchstorelaw18.DirectoryPast", spec := "directoryPast", inPlace := ["internal/bytealg.abigen_runtime_cmpstring", "slices.overlaps[sketchstore/api.Binding]"], unfollowed := true, recurses := true, apart := false, narrowed := true }
def DirectoryPastUptoSaid : Prop := directoryPastUptoRow.holds Try.pinned (OpenSpec.upto directoryPastSpec)

/-- 'sketchstorelaw18.DirectoryPrunes', WHERE WHAT IT READS IS OF BULK AT MOST 1048576: true; the input reads as it did. -/
def directoryPrunesUptoRow : OpenClaim := { program := "ytpehbfghajlgmaa", sum := "86962c3e9c89658e7ff29d68891216704f8e41673d451ce2851892e43adad780", func := "sketchstore/sketchstorelaw18.DirectoryPrunes", spec := "directoryPrunes", inPlace := ["internal/bytealg.abigen_runtime_cmpstring", "slices.overlaps[sketchstore/api.Binding]"], unfollowed := true, recurses := true, apart := false, narrowed := true }
def DirectoryPrunesUptoSaid : Prop := directoryPrunesUptoRow.holds Try.pinned (OpenSpec.upto directoryPrunesSpec)

end Rows
end Go.Proofs.Ytpehbfghajlgmaa
