/-
  No cell of these rows narrows 'for every input' (looked for: loops, veiled, ifaces, maps, wideKeys, modest, calm, conditions, laid).
  DERIVED. THE GIVEN ROWS OF THIS SEAT. 4 by the template 'for every input the law returns true; each argument reads behind the call as it read before'; 0 by the template 'total and deterministic' (their statements: YtginfmanaboibaaTotals.lean).
  GIVEN WITH THE SEED: the statements are not yours to turn. If you find one false, say at which input.
  Laid BY PROGRAM, IN A SANDBOX (cutbox-rows.mjs): the forced cells as the released guide's own fill.sh prints them over the translation c20bf2098ef16748… (all of the seat's roots in one cut). By AI agents, Wed Nov 11 2026. No macro, syntax, notation, axiom, sorry.
-/
import Derived.Test.YtginfmanaboibaaChecked
import GoSem.Claim
import GoSem.ClaimJoined
import GoSem.ClaimMapViews
import Derived.JoinedTies
import Derived.KernelRfl
namespace Go.Proofs.Ytginfmanaboibaa
/- THE CELL 'sum', in the pinned program and in every row, IS THE sha256 OF THE DUMP (.gsa) THAT YtginfmanaboibaaProg.lean LOADS. Nothing in Lean hashes anything: it is a label: what it is worth is what the hold of that sum in a sandbox is worth. -/
noncomputable def Try.pinned : Pinned := { name := "ytginfmanaboibaa", sum := "c20bf2098ef16748b88fbdc4a3b9fbdbf44cd79859600ab4c3ad0c6547c74f10", checked := Try.checked }
namespace Rows
def none {H : Type} : Left H := { results := [], args := [] }

/-- 'sketchstorelaw5.CoinsBits': WHATEVER THE INPUT: true; the input reads as it did. -/
def coinsBitsSpec : ChangeSpec := { name := "coinsBits", fn := fun _ => fun
  | [d1, d2, d3] => { results := [.lit (.bool true)], args := [d1, d2, d3] }
  | _ => none }
def coinsBitsRow : OpenClaim := { program := "ytginfmanaboibaa", sum := "c20bf2098ef16748b88fbdc4a3b9fbdbf44cd79859600ab4c3ad0c6547c74f10", func := "sketchstore/sketchstorelaw5.CoinsBits", spec := "coinsBits", apart := false }
def CoinsBitsSaid : Prop := coinsBitsRow.holds Try.pinned (OpenSpec.ofChange coinsBitsSpec)

/-- ITS FALSE NEIGHBOUR: 'it returns false'. Refute it at one input. -/
def coinsBitsWrong : ChangeSpec := { name := "coinsBits", fn := fun _ => fun
  | [d1, d2, d3] => { results := [.lit (.bool false)], args := [d1, d2, d3] }
  | _ => none }
def CoinsBitsWrongFalsely : Prop := coinsBitsRow.holds Try.pinned (OpenSpec.ofChange coinsBitsWrong)

/-- 'sketchstorelaw5.CoinsPacks': WHATEVER THE INPUT: true; the input reads as it did. -/
def coinsPacksSpec : ChangeSpec := { name := "coinsPacks", fn := fun _ => fun
  | [d] => { results := [.lit (.bool true)], args := [d] }
  | _ => none }
def coinsPacksRow : OpenClaim := { program := "ytginfmanaboibaa", sum := "c20bf2098ef16748b88fbdc4a3b9fbdbf44cd79859600ab4c3ad0c6547c74f10", func := "sketchstore/sketchstorelaw5.CoinsPacks", spec := "coinsPacks", apart := false }
def CoinsPacksSaid : Prop := coinsPacksRow.holds Try.pinned (OpenSpec.ofChange coinsPacksSpec)

/-- ITS FALSE NEIGHBOUR: 'it returns false'. Refute it at one input. -/
def coinsPacksWrong : ChangeSpec := { name := "coinsPacks", fn := fun _ => fun
  | [d] => { results := [.lit (.bool false)], args := [d] }
  | _ => none }
def CoinsPacksWrongFalsely : Prop := coinsPacksRow.holds Try.pinned (OpenSpec.ofChange coinsPacksWrong)

/-- 'sketchstorelaw5.CoinsBack': WHATEVER THE INPUT: true; the input reads as it did. -/
def coinsBackSpec : ChangeSpec := { name := "coinsBack", fn := fun _ => fun
  | [d] => { results := [.lit (.bool true)], args := [d] }
  | _ => none }
def coinsBackRow : OpenClaim := { program := "ytginfmanaboibaa", sum := "c20bf2098ef16748b88fbdc4a3b9fbdbf44cd79859600ab4c3ad0c6547c74f10", func := "sketchstore/sketchstorelaw5.CoinsBack", spec := "coinsBack", apart := false }
def CoinsBackSaid : Prop := coinsBackRow.holds Try.pinned (OpenSpec.ofChange coinsBackSpec)

/-- ITS FALSE NEIGHBOUR: 'it returns false'. Refute it at one input. -/
def coinsBackWrong : ChangeSpec := { name := "coinsBack", fn := fun _ => fun
  | [d] => { results := [.lit (.bool false)], args := [d] }
  | _ => none }
def CoinsBackWrongFalsely : Prop := coinsBackRow.holds Try.pinned (OpenSpec.ofChange coinsBackWrong)

/-- 'sketchstorelaw5.CoinsHeads': WHATEVER THE INPUT: true; the input reads as it did. -/
def coinsHeadsSpec : ChangeSpec := { name := "coinsHeads", fn := fun _ => fun
  | [d1, d2, d3, d4] => { results := [.lit (.bool true)], args := [d1, d2, d3, d4] }
  | _ => none }
def coinsHeadsRow : OpenClaim := { program := "ytginfmanaboibaa", sum := "c20bf2098ef16748b88fbdc4a3b9fbdbf44cd79859600ab4c3ad0c6547c74f10", func := "sketchstore/sketchstorelaw5.CoinsHeads", spec := "coinsHeads", apart := false }
def CoinsHeadsSaid : Prop := coinsHeadsRow.holds Try.pinned (OpenSpec.ofChange coinsHeadsSpec)

/-- ITS FALSE NEIGHBOUR: 'it returns false'. Refute it at one input. -/
def coinsHeadsWrong : ChangeSpec := { name := "coinsHeads", fn := fun _ => fun
  | [d1, d2, d3, d4] => { results := [.lit (.bool false)], args := [d1, d2, d3, d4] }
  | _ => none }
def CoinsHeadsWrongFalsely : Prop := coinsHeadsRow.holds Try.pinned (OpenSpec.ofChange coinsHeadsWrong)

/- THE SECOND FORM. 'bulk': how many values and letters a reading holds, each counted each time it is reached (what is shared counts as often as it is met; a slice's spare places count too). A statement '..UptoSaid' is the law's where the arguments, and the package variables that the reading takes, are together of bulk at most 1048576: NARROWER than '..Said'. Prove '..Said' where nothing that the law and all that it calls make is longer than what came in: it says more and counts as full. Else prove '..UptoSaid'. A law counts once. -/
mutual
def uptoBulk {H : Type} : DataW H → Nat
  | .lit (.string bytes) => bytes.length + 1
  | .lit _ => 1
  | .nil => 1
  | .ptr d => uptoBulk d + 1
  | .slice elems spare => uptoBulkAll elems + uptoBulkAll spare + 1
  | .agg parts => uptoBulkAll parts + 1
  | .iface _ d => uptoBulk d + 1
  | .map entries => uptoBulkEntries entries + 1
  | .held _ => 1
def uptoBulkAll {H : Type} : List (DataW H) → Nat
  | [] => 0
  | d :: r => uptoBulk d + uptoBulkAll r
def uptoBulkEntries {H : Type} : List (Lit × DataW H) → Nat
  | [] => 0
  | x :: r => uptoBulkEntry x + uptoBulkEntries r
def uptoBulkEntry {H : Type} : Lit × DataW H → Nat
  | (.string bytes, d) => bytes.length + uptoBulk d + 1
  | (_, d) => uptoBulk d + 1
 end
def uptoSmall : (H : Type) → List (DataW H) → Bool := fun _ ds => decide (uptoBulkAll ds ≤ 1048576)
def OpenSpec.upto (s : _root_.Go.ChangeSpec) : _root_.Go.OpenSpec := { _root_.Go.OpenSpec.ofChange s with cond := some uptoSmall }

/-- 'sketchstorelaw5.CoinsBits', WHERE WHAT IT READS IS OF BULK AT MOST 1048576: true; the input reads as it did. -/
def coinsBitsUptoRow : OpenClaim := { program := "ytginfmanaboibaa", sum := "c20bf2098ef16748b88fbdc4a3b9fbdbf44cd79859600ab4c3ad0c6547c74f10", func := "sketchstore/sketchstorelaw5.CoinsBits", spec := "coinsBits", apart := false, narrowed := true }
def CoinsBitsUptoSaid : Prop := coinsBitsUptoRow.holds Try.pinned (OpenSpec.upto coinsBitsSpec)

/-- 'sketchstorelaw5.CoinsPacks', WHERE WHAT IT READS IS OF BULK AT MOST 1048576: true; the input reads as it did. -/
def coinsPacksUptoRow : OpenClaim := { program := "ytginfmanaboibaa", sum := "c20bf2098ef16748b88fbdc4a3b9fbdbf44cd79859600ab4c3ad0c6547c74f10", func := "sketchstore/sketchstorelaw5.CoinsPacks", spec := "coinsPacks", apart := false, narrowed := true }
def CoinsPacksUptoSaid : Prop := coinsPacksUptoRow.holds Try.pinned (OpenSpec.upto coinsPacksSpec)

/-- 'sketchstorelaw5.CoinsBack', WHERE WHAT IT READS IS OF BULK AT MOST 1048576: true; the input reads as it did. -/
def coinsBackUptoRow : OpenClaim := { program := "ytginfmanaboibaa", sum := "c20bf2098ef16748b88fbdc4a3b9fbdbf44cd79859600ab4c3ad0c6547c74f10", func := "sketchstore/sketchstorelaw5.CoinsBack", spec := "coinsBack", apart := false, narrowed := true }
def CoinsBackUptoSaid : Prop := coinsBackUptoRow.holds Try.pinned (OpenSpec.upto coinsBackSpec)

/-- 'sketchstorelaw5.CoinsHeads', WHERE WHAT IT READS IS OF BULK AT MOST 1048576: true; the input reads as it did. -/
def coinsHeadsUptoRow : OpenClaim := { program := "ytginfmanaboibaa", sum := "c20bf2098ef16748b88fbdc4a3b9fbdbf44cd79859600ab4c3ad0c6547c74f10", func := "sketchstore/sketchstorelaw5.CoinsHeads", spec := "coinsHeads", apart := false, narrowed := true }
def CoinsHeadsUptoSaid : Prop := coinsHeadsUptoRow.holds Try.pinned (OpenSpec.upto coinsHeadsSpec)

end Rows
end Go.Proofs.Ytginfmanaboibaa
