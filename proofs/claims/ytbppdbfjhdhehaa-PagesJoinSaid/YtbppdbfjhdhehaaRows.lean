/-
  No cell of these rows narrows 'for every input' (looked for: loops, veiled, ifaces, maps, wideKeys, modest, calm, conditions, laid).
  DERIVED. THE GIVEN ROWS OF THIS SEAT. 4 by the template 'for every input the law returns true; each argument reads behind the call as it read before'; 0 by the template 'total and deterministic' (their statements: YtbppdbfjhdhehaaTotals.lean).
  GIVEN WITH THE SEED: the statements are not yours to turn. If you find one false, say at which input.
  Laid BY PROGRAM, IN A SANDBOX (cutbox-rows.mjs): the forced cells as the released guide's own fill.sh prints them over the translation b666a26a8caff73f… (all of the seat's roots in one cut). By AI agents, Wed Nov 11 2026. No macro, syntax, notation, axiom, sorry.
-/
import Derived.Test.YtbppdbfjhdhehaaChecked
import GoSem.Claim
import GoSem.ClaimJoined
import GoSem.ClaimMapViews
import Derived.JoinedTies
import Derived.KernelRfl
namespace Go.Proofs.Ytbppdbfjhdhehaa
/- THE CELL 'sum', in the pinned program and in every row, IS THE sha256 OF THE DUMP (.gsa) THAT YtbppdbfjhdhehaaProg.lean LOADS. Nothing in Lean hashes anything: it is a label: what it is worth is what the hold of that sum in a sandbox is worth. -/
noncomputable def Try.pinned : Pinned := { name := "ytbppdbfjhdhehaa", sum := "b666a26a8caff73f22e9301e38444daf29b78fac3a93e10c8ceb4b3a9d8c91e9", checked := Try.checked }
namespace Rows
def none {H : Type} : Left H := { results := [], args := [] }

/-- 'sketchstorelaw14.PagesSplit': WHATEVER THE INPUT: true; the input reads as it did. -/
def pagesSplitSpec : ChangeSpec := { name := "pagesSplit", fn := fun _ => fun
  | [d1, d2, d3] => { results := [.lit (.bool true)], args := [d1, d2, d3] }
  | _ => none }
def pagesSplitRow : OpenClaim := { program := "ytbppdbfjhdhehaa", sum := "b666a26a8caff73f22e9301e38444daf29b78fac3a93e10c8ceb4b3a9d8c91e9", func := "sketchstore/sketchstorelaw14.PagesSplit", spec := "pagesSplit", inPlace := ["internal/bytealg.MakeNoZero"], apart := false }
def PagesSplitSaid : Prop := pagesSplitRow.holds Try.pinned (OpenSpec.ofChange pagesSplitSpec)

/-- ITS FALSE NEIGHBOUR: 'it returns false'. Refute it at one input. -/
def pagesSplitWrong : ChangeSpec := { name := "pagesSplit", fn := fun _ => fun
  | [d1, d2, d3] => { results := [.lit (.bool false)], args := [d1, d2, d3] }
  | _ => none }
def PagesSplitWrongFalsely : Prop := pagesSplitRow.holds Try.pinned (OpenSpec.ofChange pagesSplitWrong)

/-- 'sketchstorelaw14.PagesJoin': WHATEVER THE INPUT: true; the input reads as it did. -/
def pagesJoinSpec : ChangeSpec := { name := "pagesJoin", fn := fun _ => fun
  | [d1, d2] => { results := [.lit (.bool true)], args := [d1, d2] }
  | _ => none }
def pagesJoinRow : OpenClaim := { program := "ytbppdbfjhdhehaa", sum := "b666a26a8caff73f22e9301e38444daf29b78fac3a93e10c8ceb4b3a9d8c91e9", func := "sketchstore/sketchstorelaw14.PagesJoin", spec := "pagesJoin", inPlace := ["internal/bytealg.MakeNoZero"], apart := false }
def PagesJoinSaid : Prop := pagesJoinRow.holds Try.pinned (OpenSpec.ofChange pagesJoinSpec)

/-- ITS FALSE NEIGHBOUR: 'it returns false'. Refute it at one input. -/
def pagesJoinWrong : ChangeSpec := { name := "pagesJoin", fn := fun _ => fun
  | [d1, d2] => { results := [.lit (.bool false)], args := [d1, d2] }
  | _ => none }
def PagesJoinWrongFalsely : Prop := pagesJoinRow.holds Try.pinned (OpenSpec.ofChange pagesJoinWrong)

/-- 'sketchstorelaw14.PagesLists': WHATEVER THE INPUT: true; the input reads as it did. -/
def pagesListsSpec : ChangeSpec := { name := "pagesLists", fn := fun _ => fun
  | [d] => { results := [.lit (.bool true)], args := [d] }
  | _ => none }
def pagesListsRow : OpenClaim := { program := "ytbppdbfjhdhehaa", sum := "b666a26a8caff73f22e9301e38444daf29b78fac3a93e10c8ceb4b3a9d8c91e9", func := "sketchstore/sketchstorelaw14.PagesLists", spec := "pagesLists", inPlace := ["internal/bytealg.MakeNoZero"], apart := false }
def PagesListsSaid : Prop := pagesListsRow.holds Try.pinned (OpenSpec.ofChange pagesListsSpec)

/-- ITS FALSE NEIGHBOUR: 'it returns false'. Refute it at one input. -/
def pagesListsWrong : ChangeSpec := { name := "pagesLists", fn := fun _ => fun
  | [d] => { results := [.lit (.bool false)], args := [d] }
  | _ => none }
def PagesListsWrongFalsely : Prop := pagesListsRow.holds Try.pinned (OpenSpec.ofChange pagesListsWrong)

/-- 'sketchstorelaw14.PagesShared': WHATEVER THE INPUT: true; the input reads as it did. -/
def pagesSharedSpec : ChangeSpec := { name := "pagesShared", fn := fun _ => fun
  | [d1, d2, d3] => { results := [.lit (.bool true)], args := [d1, d2, d3] }
  | _ => none }
def pagesSharedRow : OpenClaim := { program := "ytbppdbfjhdhehaa", sum := "b666a26a8caff73f22e9301e38444daf29b78fac3a93e10c8ceb4b3a9d8c91e9", func := "sketchstore/sketchstorelaw14.PagesShared", spec := "pagesShared", inPlace := ["internal/bytealg.MakeNoZero"], apart := false }
def PagesSharedSaid : Prop := pagesSharedRow.holds Try.pinned (OpenSpec.ofChange pagesSharedSpec)

/-- ITS FALSE NEIGHBOUR: 'it returns false'. Refute it at one input. -/
def pagesSharedWrong : ChangeSpec := { name := "pagesShared", fn := fun _ => fun
  | [d1, d2, d3] => { results := [.lit (.bool false)], args := [d1, d2, d3] }
  | _ => none }
def PagesSharedWrongFalsely : Prop := pagesSharedRow.holds Try.pinned (OpenSpec.ofChange pagesSharedWrong)

/- THE SECOND FORM. 'bulk': how many values and letters a reading holds, each counted each time it is reached (what is shared counts as often as it is met; a slice's spare places count too). A statement '..UptoSaid' is the law's where the arguments, and the package variables that the reading takes, are together of bulk at most 1048576: NARROWER than '..Said'. Prove '..Said' where nothing that the law and all that it calls make is longer than what came in: it says more and counts as full. Else prove '..UptoSaid'. A law counts once. -/
mutual
def uptoBulk {H : Type} : DataW H → Nat
  | .lit (.string bytes) => bytes.length + 1
  | .lit _ => 1
  | .nil => 1
  | .ptr d => uptoBulk d + 1
  | .slice elems spare => uptoBulkAll elems + uptoBulkAll spare + 1
  | .agg parts => uptoBulkAll parts + 1
  | .iface _ d => uptoBulk d + 1
  | .map entries => uptoBulkEntries entries + 1
  | .held _ => 1
def uptoBulkAll {H : Type} : List (DataW H) → Nat
  | [] => 0
  | d :: r => uptoBulk d + uptoBulkAll r
def uptoBulkEntries {H : Type} : List (Lit × DataW H) → Nat
  | [] => 0
  | x :: r => uptoBulkEntry x + uptoBulkEntries r
def uptoBulkEntry {H : Type} : Lit × DataW H → Nat
  | (.string bytes, d) => bytes.length + uptoBulk d + 1
  | (_, d) => uptoBulk d + 1
 end
def uptoSmall : (H : Type) → List (DataW H) → Bool := fun _ ds => decide (uptoBulkAll ds ≤ 1048576)
def OpenSpec.upto (s : _root_.Go.ChangeSpec) : _root_.Go.OpenSpec := { _root_.Go.OpenSpec.ofChange s with cond := some uptoSmall }

/-- 'sketchstorelaw14.PagesSplit', WHERE WHAT IT READS IS OF BULK AT MOST 1048576: true; the input reads as it did. -/
def pagesSplitUptoRow : OpenClaim := { program := "ytbppdbfjhdhehaa", sum := "b666a26a8caff73f22e9301e38444daf29b78fac3a93e10c8ceb4b3a9d8c91e9", func := "sketchstore/sketchstorelaw14.PagesSplit", spec := "pagesSplit", inPlace := ["internal/bytealg.MakeNoZero"], apart := false, narrowed := true }
def PagesSplitUptoSaid : Prop := pagesSplitUptoRow.holds Try.pinned (OpenSpec.upto pagesSplitSpec)

/-- 'sketchstorelaw14.PagesJoin', WHERE WHAT IT READS IS OF BULK AT MOST 1048576: true; the input reads as it did. -/
def pagesJoinUptoRow : OpenClaim := { program := "ytbppdbfjhdhehaa", sum := "b666a26a8caff73f22e9301e38444daf29b78fac3a93e10c8ceb4b3a9d8c91e9", func := "sketchstore/sketchstorelaw14.PagesJoin", spec := "pagesJoin", inPlace := ["internal/bytealg.MakeNoZero"], apart := false, narrowed := true }
def PagesJoinUptoSaid : Prop := pagesJoinUptoRow.holds Try.pinned (OpenSpec.upto pagesJoinSpec)

/-- 'sketchstorelaw14.PagesLists', WHERE WHAT IT READS IS OF BULK AT MOST 1048576: true; the input reads as it did. -/
def pagesListsUptoRow : OpenClaim := { program := "ytbppdbfjhdhehaa", sum := "b666a26a8caff73f22e9301e38444daf29b78fac3a93e10c8ceb4b3a9d8c91e9", func := "sketchstore/sketchstorelaw14.PagesLists", spec := "pagesLists", inPlace := ["internal/bytealg.MakeNoZero"], apart := false, narrowed := true }
def PagesListsUptoSaid : Prop := pagesListsUptoRow.holds Try.pinned (OpenSpec.upto pagesListsSpec)

/-- 'sketchstorelaw14.PagesShared', WHERE WHAT IT READS IS OF BULK AT MOST 1048576: true; the input reads as it did. -/
def pagesSharedUptoRow : OpenClaim := { program := "ytbppdbfjhdhehaa", sum := "b666a26a8caff73f22e9301e38444daf29b78fac3a93e10c8ceb4b3a9d8c91e9", func := "sketchstore/sketchstorelaw14.PagesShared", spec := "pagesShared", inPlace := ["internal/bytealg.MakeNoZero"], apart := false, narrowed := true }
def PagesSharedUptoSaid : Prop := pagesSharedUptoRow.holds Try.pinned (OpenSpec.upto pagesSharedSpec)

end Rows
end Go.Proofs.Ytbppdbfjhdhehaa
