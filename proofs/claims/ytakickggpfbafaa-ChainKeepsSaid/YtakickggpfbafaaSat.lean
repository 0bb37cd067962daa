/- The contracts of package satur's additions and products at this translation. -/
import Derived.Test.YtakickggpfbafaaProg
import Derived.Test.YtakickggpfbafaaBits
import Derived.Test.YtakickggpfbafaaWords
import Derived.WalkKit
import Derived.ProofKit
import Derived.Handy
namespace Go.Proofs.Ytakickggpfbafaa
open Go.RowKit
set_option linter.unusedVariables false
set_option linter.unusedSimpArgs false
end Go.Proofs.Ytakickggpfbafaa
