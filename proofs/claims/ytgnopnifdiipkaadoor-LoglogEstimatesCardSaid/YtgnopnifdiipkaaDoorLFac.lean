/- What the call may lean on: the factors of loglog. -/
import Derived.Test.YtgnopnifdiipkaaDoorLl
import Derived.Lib.LaidTab
import Derived.Lib.AppendIntMem
namespace Go.Proofs.YtgnopnifdiipkaaDoor
open Go.RowKit
def TabF (w : World) : Prop := Lib.TabIs Tryd.prog w "sketchstore/loglog.factors" .i64 wtab
theorem TabF.below {w w' : World} (h : TabF w) (hb : Below w.heap.size w w') : TabF w' := Lib.tabBelow_of_tabIs h w' hb
theorem TabF.at_ {w : World} (h : TabF w) (j : Nat) (hj : j < 7) : w.cell? ⟨0, j, none⟩ = some (.int .i64 (wtab.getD j 0)) :=
  Lib.TabIs.cell h (by kernel_rfl) j hj
end Go.Proofs.YtgnopnifdiipkaaDoor
