/-
  NARROWER THAN 'FOR EVERY INPUT', by the rows' own cells (each row's printed sentence says how): SketchNew: laid · SketchLooks: laid · SketchInserts: laid · SketchMerges: laid · SketchCodes: laid · SketchReads: laid · SketchUnion: laid.
  DERIVED. THE GIVEN ROWS OF THIS SEAT. 7 by the template 'for every input the law returns true; each argument reads behind the call as it read before'; 0 by the template 'total and deterministic' (their statements: YtcndobdbjillpaaGreatDoorTotals.lean).
  GIVEN WITH THE SEED: the statements are not yours to turn. If you find one false, say at which input.
  Laid BY PROGRAM, IN A SANDBOX (cutbox-rows.mjs): the forced cells as the released guide's own fill.sh prints them over the translation 3f4d250bc15ae534… (all of the seat's roots in one cut). By AI agents, Wed Nov 11 2026. No macro, syntax, notation, axiom, sorry.
-/
import Derived.Test.YtcndobdbjillpaaGreatDoorChecked
import GoSem.Claim
import GoSem.ClaimJoined
import GoSem.ClaimMapViews
import Derived.JoinedTies
import Derived.KernelRfl
namespace Go.Proofs.YtcndobdbjillpaaGreatDoor
/- THE CELL 'sum', in the pinned program and in every row, IS THE sha256 OF THE DUMP (.gsa) THAT YtcndobdbjillpaaGreatDoorProg.lean LOADS. Nothing in Lean hashes anything: it is a label: what it is worth is what the hold of that sum in a sandbox is worth. -/
noncomputable def Tryz.pinned : Pinned := { name := "ytcndobdbjillpaagreatdoor", sum := "3f4d250bc15ae53497e7cc2f22b372099fb6469b4b193172630de047ecf5e2e7", checked := Tryz.checked }
namespace Rows
def none {H : Type} : Left H := { results := [], args := [] }

/- WHAT THE LISTED PACKAGE-LEVEL VARIABLES READ AS WHEN THE CALL BEGINS. Each datum BY PROGRAM (the guide's laid-datum.mjs) off the statement by which the dump's own 'gosem.cut.vars' lays the variable. In a bare row this is a premise. The card (YtcndobdbjillpaaGreatDoorCards.lean) ties it to the program's text. -/
def laid_math_bits_deBruijn64tab {H : Type} : DataW H := .agg [.lit (.int .u8 0), .lit (.int .u8 1), .lit (.int .u8 56), .lit (.int .u8 2), .lit (.int .u8 57), .lit (.int .u8 49), .lit (.int .u8 28), .lit (.int .u8 3), .lit (.int .u8 61), .lit (.int .u8 58), .lit (.int .u8 42), .lit (.int .u8 50), .lit (.int .u8 38), .lit (.int .u8 29), .lit (.int .u8 17), .lit (.int .u8 4), .lit (.int .u8 62), .lit (.int .u8 47), .lit (.int .u8 59), .lit (.int .u8 36), .lit (.int .u8 45), .lit (.int .u8 43), .lit (.int .u8 51), .lit (.int .u8 22), .lit (.int .u8 53), .lit (.int .u8 39), .lit (.int .u8 33), .lit (.int .u8 30), .lit (.int .u8 24), .lit (.int .u8 18), .lit (.int .u8 12), .lit (.int .u8 5), .lit (.int .u8 63), .lit (.int .u8 55), .lit (.int .u8 48), .lit (.int .u8 27), .lit (.int .u8 60), .lit (.int .u8 41), .lit (.int .u8 37), .lit (.int .u8 16), .lit (.int .u8 46), .lit (.int .u8 35), .lit (.int .u8 44), .lit (.int .u8 21), .lit (.int .u8 52), .lit (.int .u8 32), .lit (.int .u8 23), .lit (.int .u8 11), .lit (.int .u8 54), .lit (.int .u8 26), .lit (.int .u8 40), .lit (.int .u8 15), .lit (.int .u8 34), .lit (.int .u8 20), .lit (.int .u8 31), .lit (.int .u8 10), .lit (.int .u8 25), .lit (.int .u8 14), .lit (.int .u8 19), .lit (.int .u8 9), .lit (.int .u8 13), .lit (.int .u8 8), .lit (.int .u8 7), .lit (.int .u8 6)]

/-- 'sketchstorelaw12.SketchNew': WHATEVER THE INPUT: true; the input reads as it did. -/
def sketchNewSpec : ChangeSpec := { name := "sketchNew", fn := fun _ => fun
  | [d1, d2] => { results := [.lit (.bool true)], args := [d1, d2] }
  | _ => none }
def sketchNewRow : OpenClaim := { program := "ytcndobdbjillpaagreatdoor", sum := "3f4d250bc15ae53497e7cc2f22b372099fb6469b4b193172630de047ecf5e2e7", func := "sketchstore/sketchstorelaw12.SketchNew", spec := "sketchNew", inPlace := ["internal/bytealg.abigen_runtime_cmpstring"], unfollowed := true, recurses := true, named := ["math/bits.deBruijn64tab"], apart := false, laid := [("math/bits.deBruijn64tab", laid_math_bits_deBruijn64tab)] }
def SketchNewSaid : Prop := sketchNewRow.holds Tryz.pinned (OpenSpec.ofChange sketchNewSpec)

/-- ITS FALSE NEIGHBOUR: 'it returns false'. Refute it at one input. -/
def sketchNewWrong : ChangeSpec := { name := "sketchNew", fn := fun _ => fun
  | [d1, d2] => { results := [.lit (.bool false)], args := [d1, d2] }
  | _ => none }
def SketchNewWrongFalsely : Prop := sketchNewRow.holds Tryz.pinned (OpenSpec.ofChange sketchNewWrong)

/-- 'sketchstorelaw12.SketchLooks': WHATEVER THE INPUT: true; the input reads as it did. -/
def sketchLooksSpec : ChangeSpec := { name := "sketchLooks", fn := fun _ => fun
  | [d1, d2, d3] => { results := [.lit (.bool true)], args := [d1, d2, d3] }
  | _ => none }
def sketchLooksRow : OpenClaim := { program := "ytcndobdbjillpaagreatdoor", sum := "3f4d250bc15ae53497e7cc2f22b372099fb6469b4b193172630de047ecf5e2e7", func := "sketchstore/sketchstorelaw12.SketchLooks", spec := "sketchLooks", inPlace := ["internal/bytealg.abigen_runtime_cmpstring"], unfollowed := true, recurses := true, named := ["math/bits.deBruijn64tab"], apart := false, laid := [("math/bits.deBruijn64tab", laid_math_bits_deBruijn64tab)] }
def SketchLooksSaid : Prop := sketchLooksRow.holds Tryz.pinned (OpenSpec.ofChange sketchLooksSpec)

/-- ITS FALSE NEIGHBOUR: 'it returns false'. Refute it at one input. -/
def sketchLooksWrong : ChangeSpec := { name := "sketchLooks", fn := fun _ => fun
  | [d1, d2, d3] => { results := [.lit (.bool false)], args := [d1, d2, d3] }
  | _ => none }
def SketchLooksWrongFalsely : Prop := sketchLooksRow.holds Tryz.pinned (OpenSpec.ofChange sketchLooksWrong)

/-- 'sketchstorelaw12.SketchInserts': WHATEVER THE INPUT: true; the input reads as it did. -/
def sketchInsertsSpec : ChangeSpec := { name := "sketchInserts", fn := fun _ => fun
  | [d1, d2, d3] => { results := [.lit (.bool true)], args := [d1, d2, d3] }
  | _ => none }
def sketchInsertsRow : OpenClaim := { program := "ytcndobdbjillpaagreatdoor", sum := "3f4d250bc15ae53497e7cc2f22b372099fb6469b4b193172630de047ecf5e2e7", func := "sketchstore/sketchstorelaw12.SketchInserts", spec := "sketchInserts", inPlace := ["internal/bytealg.abigen_runtime_cmpstring"], unfollowed := true, recurses := true, named := ["math/bits.deBruijn64tab"], apart := false, laid := [("math/bits.deBruijn64tab", laid_math_bits_deBruijn64tab)] }
def SketchInsertsSaid : Prop := sketchInsertsRow.holds Tryz.pinned (OpenSpec.ofChange sketchInsertsSpec)

/-- ITS FALSE NEIGHBOUR: 'it returns false'. Refute it at one input. -/
def sketchInsertsWrong : ChangeSpec := { name := "sketchInserts", fn := fun _ => fun
  | [d1, d2, d3] => { results := [.lit (.bool false)], args := [d1, d2, d3] }
  | _ => none }
def SketchInsertsWrongFalsely : Prop := sketchInsertsRow.holds Tryz.pinned (OpenSpec.ofChange sketchInsertsWrong)

/-- 'sketchstorelaw12.SketchMerges': WHATEVER THE INPUT: true; the input reads as it did. -/
def sketchMergesSpec : ChangeSpec := { name := "sketchMerges", fn := fun _ => fun
  | [d1, d2, d3, d4] => { results := [.lit (.bool true)], args := [d1, d2, d3, d4] }
  | _ => none }
def sketchMergesRow : OpenClaim := { program := "ytcndobdbjillpaagreatdoor", sum := "3f4d250bc15ae53497e7cc2f22b372099fb6469b4b193172630de047ecf5e2e7", func := "sketchstore/sketchstorelaw12.SketchMerges", spec := "sketchMerges", inPlace := ["internal/bytealg.abigen_runtime_cmpstring"], unfollowed := true, recurses := true, named := ["math/bits.deBruijn64tab"], apart := false, laid := [("math/bits.deBruijn64tab", laid_math_bits_deBruijn64tab)] }
def SketchMergesSaid : Prop := sketchMergesRow.holds Tryz.pinned (OpenSpec.ofChange sketchMergesSpec)

/-- ITS FALSE NEIGHBOUR: 'it returns false'. Refute it at one input. -/
def sketchMergesWrong : ChangeSpec := { name := "sketchMerges", fn := fun _ => fun
  | [d1, d2, d3, d4] => { results := [.lit (.bool false)], args := [d1, d2, d3, d4] }
  | _ => none }
def SketchMergesWrongFalsely : Prop := sketchMergesRow.holds Tryz.pinned (OpenSpec.ofChange sketchMergesWrong)

/-- 'sketchstorelaw12.SketchCodes': WHATEVER THE INPUT: true; the input reads as it did. -/
def sketchCodesSpec : ChangeSpec := { name := "sketchCodes", fn := fun _ => fun
  | [d1, d2] => { results := [.lit (.bool true)], args := [d1, d2] }
  | _ => none }
def sketchCodesRow : OpenClaim := { program := "ytcndobdbjillpaagreatdoor", sum := "3f4d250bc15ae53497e7cc2f22b372099fb6469b4b193172630de047ecf5e2e7", func := "sketchstore/sketchstorelaw12.SketchCodes", spec := "sketchCodes", inPlace := ["internal/bytealg.abigen_runtime_cmpstring"], unfollowed := true, recurses := true, named := ["math/bits.deBruijn64tab"], apart := false, laid := [("math/bits.deBruijn64tab", laid_math_bits_deBruijn64tab)] }
def SketchCodesSaid : Prop := sketchCodesRow.holds Tryz.pinned (OpenSpec.ofChange sketchCodesSpec)

/-- ITS FALSE NEIGHBOUR: 'it returns false'. Refute it at one input. -/
def sketchCodesWrong : ChangeSpec := { name := "sketchCodes", fn := fun _ => fun
  | [d1, d2] => { results := [.lit (.bool false)], args := [d1, d2] }
  | _ => none }
def SketchCodesWrongFalsely : Prop := sketchCodesRow.holds Tryz.pinned (OpenSpec.ofChange sketchCodesWrong)

/-- 'sketchstorelaw12.SketchReads': WHATEVER THE INPUT: true; the input reads as it did. -/
def sketchReadsSpec : ChangeSpec := { name := "sketchReads", fn := fun _ => fun
  | [d1, d2, d3, d4, d5] => { results := [.lit (.bool true)], args := [d1, d2, d3, d4, d5] }
  | _ => none }
def sketchReadsRow : OpenClaim := { program := "ytcndobdbjillpaagreatdoor", sum := "3f4d250bc15ae53497e7cc2f22b372099fb6469b4b193172630de047ecf5e2e7", func := "sketchstore/sketchstorelaw12.SketchReads", spec := "sketchReads", inPlace := ["internal/bytealg.abigen_runtime_cmpstring"], unfollowed := true, recurses := true, named := ["math/bits.deBruijn64tab"], apart := false, laid := [("math/bits.deBruijn64tab", laid_math_bits_deBruijn64tab)] }
def SketchReadsSaid : Prop := sketchReadsRow.holds Tryz.pinned (OpenSpec.ofChange sketchReadsSpec)

/-- ITS FALSE NEIGHBOUR: 'it returns false'. Refute it at one input. -/
def sketchReadsWrong : ChangeSpec := { name := "sketchReads", fn := fun _ => fun
  | [d1, d2, d3, d4, d5] => { results := [.lit (.bool false)], args := [d1, d2, d3, d4, d5] }
  | _ => none }
def SketchReadsWrongFalsely : Prop := sketchReadsRow.holds Tryz.pinned (OpenSpec.ofChange sketchReadsWrong)

/-- 'sketchstorelaw12.SketchUnion': WHATEVER THE INPUT: true; the input reads as it did. -/
def sketchUnionSpec : ChangeSpec := { name := "sketchUnion", fn := fun _ => fun
  | [d1, d2, d3] => { results := [.lit (.bool true)], args := [d1, d2, d3] }
  | _ => none }
def sketchUnionRow : OpenClaim := { program := "ytcndobdbjillpaagreatdoor", sum := "3f4d250bc15ae53497e7cc2f22b372099fb6469b4b193172630de047ecf5e2e7", func := "sketchstore/sketchstorelaw12.SketchUnion", spec := "sketchUnion", inPlace := ["internal/bytealg.abigen_runtime_cmpstring"], unfollowed := true, recurses := true, named := ["math/bits.deBruijn64tab"], apart := false, laid := [("math/bits.deBruijn64tab", laid_math_bits_deBruijn64tab)] }
def SketchUnionSaid : Prop := sketchUnionRow.holds Tryz.pinned (OpenSpec.ofChange sketchUnionSpec)

/-- ITS FALSE NEIGHBOUR: 'it returns false'. Refute it at one input. -/
def sketchUnionWrong : ChangeSpec := { name := "sketchUnion", fn := fun _ => fun
  | [d1, d2, d3] => { results := [.lit (.bool false)], args := [d1, d2, d3] }
  | _ => none }
def SketchUnionWrongFalsely : Prop := sketchUnionRow.holds Tryz.pinned (OpenSpec.ofChange sketchUnionWrong)

/- THE SECOND FORM. 'bulk': how many values and letters a reading holds, each counted each time it is reached (what is shared counts as often as it is met; a slice's spare places count too). A statement '..UptoSaid' is the law's where the arguments, and the package variables that the reading takes, are together of bulk at most 1048576: NARROWER than '..Said'. Prove '..Said' where nothing that the law and all that it calls make is longer than what came in: it says more and counts as full. Else prove '..UptoSaid'. A law counts once. -/
mutual
def uptoBulk {H : Type} : DataW H → Nat
  | .lit (.string bytes) => bytes.length + 1
  | .lit _ => 1
  | .nil => 1
  | .ptr d => uptoBulk d + 1
  | .slice elems spare => uptoBulkAll elems + uptoBulkAll spare + 1
  | .agg parts => uptoBulkAll parts + 1
  | .iface _ d => uptoBulk d + 1
  | .map entries => uptoBulkEntries entries + 1
  | .held _ => 1
def uptoBulkAll {H : Type} : List (DataW H) → Nat
  | [] => 0
  | d :: r => uptoBulk d + uptoBulkAll r
def uptoBulkEntries {H : Type} : List (Lit × DataW H) → Nat
  | [] => 0
  | x :: r => uptoBulkEntry x + uptoBulkEntries r
def uptoBulkEntry {H : Type} : Lit × DataW H → Nat
  | (.string bytes, d) => bytes.length + uptoBulk d + 1
  | (_, d) => uptoBulk d + 1
 end
def uptoSmall : (H : Type) → List (DataW H) → Bool := fun _ ds => decide (uptoBulkAll ds ≤ 1048576)
def OpenSpec.upto (s : _root_.Go.ChangeSpec) : _root_.Go.OpenSpec := { _root_.Go.OpenSpec.ofChange s with cond := some uptoSmall }

/-- 'sketchstorelaw12.SketchNew', WHERE WHAT IT READS IS OF BULK AT MOST 1048576: true; the input reads as it did. -/
def sketchNewUptoRow : OpenClaim := { program := "ytcndobdbjillpaagreatdoor", sum := "3f4d250bc15ae53497e7cc2f22b372099fb6469b4b193172630de047ecf5e2e7", func := "sketchstore/sketchstorelaw12.SketchNew", spec := "sketchNew", inPlace := ["internal/bytealg.abigen_runtime_cmpstring"], unfollowed := true, recurses := true, named := ["math/bits.deBruijn64tab"], apart := false, laid := [("math/bits.deBruijn64tab", laid_math_bits_deBruijn64tab)], narrowed := true }
def SketchNewUptoSaid : Prop := sketchNewUptoRow.holds Tryz.pinned (OpenSpec.upto sketchNewSpec)

/-- 'sketchstorelaw12.SketchLooks', WHERE WHAT IT READS IS OF BULK AT MOST 1048576: true; the input reads as it did. -/
def sketchLooksUptoRow : OpenClaim := { program := "ytcndobdbjillpaagreatdoor", sum := "3f4d250bc15ae53497e7cc2f22b372099fb6469b4b193172630de047ecf5e2e7", func := "sketchstore/sketchstorelaw12.SketchLooks", spec := "sketchLooks", inPlace := ["internal/bytealg.abigen_runtime_cmpstring"], unfollowed := true, recurses := true, named := ["math/bits.deBruijn64tab"], apart := false, laid := [("math/bits.deBruijn64tab", laid_math_bits_deBruijn64tab)], narrowed := true }
def SketchLooksUptoSaid : Prop := sketchLooksUptoRow.holds Tryz.pinned (OpenSpec.upto sketchLooksSpec)

/-- 'sketchstorelaw12.SketchInserts', WHERE WHAT IT READS IS OF BULK AT MOST 1048576: true; the input reads as it did. -/
def sketchInsertsUptoRow : OpenClaim := { program := "ytcndobdbjillpaagreatdoor", sum := "3f4d250bc15ae53497e7cc2f22b372099fb6469b4b193172630de047ecf5e2e7", func := "sketchstore/sketchstorelaw12.SketchInserts", spec := "sketchInserts", inPlace := ["internal/bytealg.abigen_runtime_cmpstring"], unfollowed := true, recurses := true, named := ["math/bits.deBruijn64tab"], apart := false, laid := [("math/bits.deBruijn64tab", laid_math_bits_deBruijn64tab)], narrowed := true }
def SketchInsertsUptoSaid : Prop := sketchInsertsUptoRow.holds Tryz.pinned (OpenSpec.upto sketchInsertsSpec)

/-- 'sketchstorelaw12.SketchMerges', WHERE WHAT IT READS IS OF BULK AT MOST 1048576: true; the input reads as it did. -/
def sketchMergesUptoRow : OpenClaim := { program := "ytcndobdbjillpaagreatdoor", sum := "3f4d250bc15ae53497e7cc2f22b372099fb6469b4b193172630de047ecf5e2e7", func := "sketchstore/sketchstorelaw12.SketchMerges", spec := "sketchMerges", inPlace := ["internal/bytealg.abigen_runtime_cmpstring"], unfollowed := true, recurses := true, named := ["math/bits.deBruijn64tab"], apart := false, laid := [("math/bits.deBruijn64tab", laid_math_bits_deBruijn64tab)], narrowed := true }
def SketchMergesUptoSaid : Prop := sketchMergesUptoRow.holds Tryz.pinned (OpenSpec.upto sketchMergesSpec)

/-- 'sketchstorelaw12.SketchCodes', WHERE WHAT IT READS IS OF BULK AT MOST 1048576: true; the input reads as it did. -/
def sketchCodesUptoRow : OpenClaim := { program := "ytcndobdbjillpaagreatdoor", sum := "3f4d250bc15ae53497e7cc2f22b372099fb6469b4b193172630de047ecf5e2e7", func := "sketchstore/sketchstorelaw12.SketchCodes", spec := "sketchCodes", inPlace := ["internal/bytealg.abigen_runtime_cmpstring"], unfollowed := true, recurses := true, named := ["math/bits.deBruijn64tab"], apart := false, laid := [("math/bits.deBruijn64tab", laid_math_bits_deBruijn64tab)], narrowed := true }
def SketchCodesUptoSaid : Prop := sketchCodesUptoRow.holds Tryz.pinned (OpenSpec.upto sketchCodesSpec)

/-- 'sketchstorelaw12.SketchReads', WHERE WHAT IT READS IS OF BULK AT MOST 1048576: true; the input reads as it did. -/
def sketchReadsUptoRow : OpenClaim := { program := "ytcndobdbjillpaagreatdoor", sum := "3f4d250bc15ae53497e7cc2f22b372099fb6469b4b193172630de047ecf5e2e7", func := "sketchstore/sketchstorelaw12.SketchReads", spec := "sketchReads", inPlace := ["internal/bytealg.abigen_runtime_cmpstring"], unfollowed := true, recurses := true, named := ["math/bits.deBruijn64tab"], apart := false, laid := [("math/bits.deBruijn64tab", laid_math_bits_deBruijn64tab)], narrowed := true }
def SketchReadsUptoSaid : Prop := sketchReadsUptoRow.holds Tryz.pinned (OpenSpec.upto sketchReadsSpec)

/-- 'sketchstorelaw12.SketchUnion', WHERE WHAT IT READS IS OF BULK AT MOST 1048576: true; the input reads as it did. -/
def sketchUnionUptoRow : OpenClaim := { program := "ytcndobdbjillpaagreatdoor", sum := "3f4d250bc15ae53497e7cc2f22b372099fb6469b4b193172630de047ecf5e2e7", func := "sketchstore/sketchstorelaw12.SketchUnion", spec := "sketchUnion", inPlace := ["internal/bytealg.abigen_runtime_cmpstring"], unfollowed := true, recurses := true, named := ["math/bits.deBruijn64tab"], apart := false, laid := [("math/bits.deBruijn64tab", laid_math_bits_deBruijn64tab)], narrowed := true }
def SketchUnionUptoSaid : Prop := sketchUnionUptoRow.holds Tryz.pinned (OpenSpec.upto sketchUnionSpec)

end Rows
end Go.Proofs.YtcndobdbjillpaaGreatDoor
