/-
  No cell of these rows narrows 'for every input' (looked for: loops, veiled, ifaces, maps, wideKeys, modest, calm, conditions, laid).
  DERIVED. THE GIVEN ROWS OF THIS SEAT. 4 by the template 'for every input the law returns true; each argument reads behind the call as it read before'; 0 by the template 'total and deterministic' (their statements: YtledpfdflcmlcaaTotals.lean).
  GIVEN WITH THE SEED: the statements are not yours to turn. If you find one false, say at which input.
  Laid BY PROGRAM, IN A SANDBOX (cutbox-rows.mjs): the forced cells as the released guide's own fill.sh prints them over the translation 9fc9605eb12187f4… (all of the seat's roots in one cut). By AI agents, Wed Nov 11 2026. No macro, syntax, notation, axiom, sorry.
-/
import Derived.Test.YtledpfdflcmlcaaChecked
import GoSem.Claim
import GoSem.ClaimJoined
import GoSem.ClaimMapViews
import Derived.JoinedTies
import Derived.KernelRfl
namespace Go.Proofs.Ytledpfdflcmlcaa
/- THE CELL 'sum', in the pinned program and in every row, IS THE sha256 OF THE DUMP (.gsa) THAT YtledpfdflcmlcaaProg.lean LOADS. Nothing in Lean hashes anything: it is a label: what it is worth is what the hold of that sum in a sandbox is worth. -/
noncomputable def Try.pinned : Pinned := { name := "ytledpfdflcmlcaa", sum := "9fc9605eb12187f4443a199b4dc6d35e8d18b290da700fddd7998c55a9cf51c4", checked := Try.checked }
namespace Rows
def none {H : Type} : Left H := { results := [], args := [] }

/-- 'sketchstorelaw16.PinsChange': WHATEVER THE INPUT: true; the input reads as it did. -/
def pinsChangeSpec : ChangeSpec := { name := "pinsChange", fn := fun _ => fun
  | [d1, d2, d3] => { results := [.lit (.bool true)], args := [d1, d2, d3] }
  | _ => none }
def pinsChangeRow : OpenClaim := { program := "ytledpfdflcmlcaa", sum := "9fc9605eb12187f4443a199b4dc6d35e8d18b290da700fddd7998c55a9cf51c4", func := "sketchstore/sketchstorelaw16.PinsChange", spec := "pinsChange", inPlace := ["slices.overlaps[sketchstore/api.Pin]"], unfollowed := true, recurses := true, apart := false }
def PinsChangeSaid : Prop := pinsChangeRow.holds Try.pinned (OpenSpec.ofChange pinsChangeSpec)

/-- ITS FALSE NEIGHBOUR: 'it returns false'. Refute it at one input. -/
def pinsChangeWrong : ChangeSpec := { name := "pinsChange", fn := fun _ => fun
  | [d1, d2, d3] => { results := [.lit (.bool false)], args := [d1, d2, d3] }
  | _ => none }
def PinsChangeWrongFalsely : Prop := pinsChangeRow.holds Try.pinned (OpenSpec.ofChange pinsChangeWrong)

/-- 'sketchstorelaw16.PinsLook': WHATEVER THE INPUT: true; the input reads as it did. -/
def pinsLookSpec : ChangeSpec := { name := "pinsLook", fn := fun _ => fun
  | [d1, d2, d3, d4] => { results := [.lit (.bool true)], args := [d1, d2, d3, d4] }
  | _ => none }
def pinsLookRow : OpenClaim := { program := "ytledpfdflcmlcaa", sum := "9fc9605eb12187f4443a199b4dc6d35e8d18b290da700fddd7998c55a9cf51c4", func := "sketchstore/sketchstorelaw16.PinsLook", spec := "pinsLook", inPlace := ["slices.overlaps[sketchstore/api.Pin]"], unfollowed := true, recurses := true, apart := false }
def PinsLookSaid : Prop := pinsLookRow.holds Try.pinned (OpenSpec.ofChange pinsLookSpec)

/-- ITS FALSE NEIGHBOUR: 'it returns false'. Refute it at one input. -/
def pinsLookWrong : ChangeSpec := { name := "pinsLook", fn := fun _ => fun
  | [d1, d2, d3, d4] => { results := [.lit (.bool false)], args := [d1, d2, d3, d4] }
  | _ => none }
def PinsLookWrongFalsely : Prop := pinsLookRow.holds Try.pinned (OpenSpec.ofChange pinsLookWrong)

/-- 'sketchstorelaw16.PinsBack': WHATEVER THE INPUT: true; the input reads as it did. -/
def pinsBackSpec : ChangeSpec := { name := "pinsBack", fn := fun _ => fun
  | [d1, d2, d3] => { results := [.lit (.bool true)], args := [d1, d2, d3] }
  | _ => none }
def pinsBackRow : OpenClaim := { program := "ytledpfdflcmlcaa", sum := "9fc9605eb12187f4443a199b4dc6d35e8d18b290da700fddd7998c55a9cf51c4", func := "sketchstore/sketchstorelaw16.PinsBack", spec := "pinsBack", inPlace := ["slices.overlaps[sketchstore/api.Pin]"], unfollowed := true, recurses := true, apart := false }
def PinsBackSaid : Prop := pinsBackRow.holds Try.pinned (OpenSpec.ofChange pinsBackSpec)

/-- ITS FALSE NEIGHBOUR: 'it returns false'. Refute it at one input. -/
def pinsBackWrong : ChangeSpec := { name := "pinsBack", fn := fun _ => fun
  | [d1, d2, d3] => { results := [.lit (.bool false)], args := [d1, d2, d3] }
  | _ => none }
def PinsBackWrongFalsely : Prop := pinsBackRow.holds Try.pinned (OpenSpec.ofChange pinsBackWrong)

/-- 'sketchstorelaw16.PinsCover': WHATEVER THE INPUT: true; the input reads as it did. -/
def pinsCoverSpec : ChangeSpec := { name := "pinsCover", fn := fun _ => fun
  | [d1, d2, d3, d4] => { results := [.lit (.bool true)], args := [d1, d2, d3, d4] }
  | _ => none }
def pinsCoverRow : OpenClaim := { program := "ytledpfdflcmlcaa", sum := "9fc9605eb12187f4443a199b4dc6d35e8d18b290da700fddd7998c55a9cf51c4", func := "sketchstore/sketchstorelaw16.PinsCover", spec := "pinsCover", inPlace := ["slices.overlaps[sketchstore/api.Pin]"], unfollowed := true, recurses := true, apart := false }
def PinsCoverSaid : Prop := pinsCoverRow.holds Try.pinned (OpenSpec.ofChange pinsCoverSpec)

/-- ITS FALSE NEIGHBOUR: 'it returns false'. Refute it at one input. -/
def pinsCoverWrong : ChangeSpec := { name := "pinsCover", fn := fun _ => fun
  | [d1, d2, d3, d4] => { results := [.lit (.bool false)], args := [d1, d2, d3, d4] }
  | _ => none }
def PinsCoverWrongFalsely : Prop := pinsCoverRow.holds Try.pinned (OpenSpec.ofChange pinsCoverWrong)

/- THE SECOND FORM. 'bulk': how many values and letters a reading holds, each counted each time it is reached (what is shared counts as often as it is met; a slice's spare places count too). A statement '..UptoSaid' is the law's where the arguments, and the package variables that the reading takes, are together of bulk at most 1048576: NARROWER than '..Said'. Prove '..Said' where nothing that the law and all that it calls make is longer than what came in: it says more and counts as full. Else prove '..UptoSaid'. A law counts once. -/
mutual
def uptoBulk {H : Type} : DataW H → Nat
  | .lit (.string bytes) => bytes.length + 1
  | .lit _ => 1
  | .nil => 1
  | .ptr d => uptoBulk d + 1
  | .slice elems spare => uptoBulkAll elems + uptoBulkAll spare + 1
  | .agg parts => uptoBulkAll parts + 1
  | .iface _ d => uptoBulk d + 1
  | .map entries => uptoBulkEntries entries + 1
  | .held _ => 1
def uptoBulkAll {H : Type} : List (DataW H) → Nat
  | [] => 0
  | d :: r => uptoBulk d + uptoBulkAll r
def uptoBulkEntries {H : Type} : List (Lit × DataW H) → Nat
  | [] => 0
  | x :: r => uptoBulkEntry x + uptoBulkEntries r
def uptoBulkEntry {H : Type} : Lit × DataW H → Nat
  | (.string bytes, d) => bytes.length + uptoBulk d + 1
  | (_, d) => uptoBulk d + 1
 end
def uptoSmall : (H : Type) → List (DataW H) → Bool := fun _ ds => decide (uptoBulkAll ds ≤ 1048576)
def OpenSpec.upto (s : _root_.Go.ChangeSpec) : _root_.Go.OpenSpec := { _root_.Go.OpenSpec.ofChange s with cond := some uptoSmall }

/-- 'sketchstorelaw16.PinsChange', WHERE WHAT IT READS IS OF BULK AT MOST 1048576: true; the input reads as it did. -/
def pinsChangeUptoRow : OpenClaim := { program := "ytledpfdflcmlcaa", sum := "9fc9605eb12187f4443a199b4dc6d35e8d18b290da700fddd7998c55a9cf51c4", func := "sketchstore/sketchstorelaw16.PinsChange", spec := "pinsChange", inPlace := ["slices.overlaps[sketchstore/api.Pin]"], unfollowed := true, recurses := true, apart := false, narrowed := true }
def PinsChangeUptoSaid : Prop := pinsChangeUptoRow.holds Try.pinned (OpenSpec.upto pinsChangeSpec)

/-- 'sketchstorelaw16.PinsLook', WHERE WHAT IT READS IS OF BULK AT MOST 1048576: true; the input reads as it did. -/
def pinsLookUptoRow : OpenClaim := { program := "ytledpfdflcmlcaa", sum := "9fc9605eb12187f4443a199b4dc6d35e8d18b290da700fddd7998c55a9cf51c4", func := "sketchstore/sketchstorelaw16.PinsLook", spec := "pinsLook", inPlace := ["slices.overlaps[sketchstore/api.Pin]"], unfollowed := true, recurses := true, apart := false, narrowed := true }
def PinsLookUptoSaid : Prop := pinsLookUptoRow.holds Try.pinned (OpenSpec.upto pinsLookSpec)

/-- 'sketchstorelaw16.PinsBack', WHERE WHAT IT READS IS OF BULK AT MOST 1048576: true; the input reads as it did. -/
def pinsBackUptoRow : OpenClaim := { program := "ytledpfdflcmlcaa", sum := "9fc9605eb12187f4443a199b4dc6d35e8d18b290da700fddd7998c55a9cf51c4", func := "sketchstore/sketchstorelaw16.PinsBack", spec := "pinsBack", inPlace := ["slices.overlaps[sketchstore/api.Pin]"], unfollowed := true, recurses := true, apart := false, narrowed := true }
def PinsBackUptoSaid : Prop := pinsBackUptoRow.holds Try.pinned (OpenSpec.upto pinsBackSpec)

/-- 'sketchstorelaw16.PinsCover', WHERE WHAT IT READS IS OF BULK AT MOST 1048576: true; the input reads as it did. -/
def pinsCoverUptoRow : OpenClaim := { program := "ytledpfdflcmlcaa", sum := "9fc9605eb12187f4443a199b4dc6d35e8d18b290da700fddd7998c55a9cf51c4", func := "sketchstore/sketchstorelaw16.PinsCover", spec := "pinsCover", inPlace := ["slices.overlaps[sketchstore/api.Pin]"], unfollowed := true, recurses := true, apart := false, narrowed := true }
def PinsCoverUptoSaid : Prop := pinsCoverUptoRow.holds Try.pinned (OpenSpec.upto pinsCoverSpec)

end Rows
end Go.Proofs.Ytledpfdflcmlcaa
