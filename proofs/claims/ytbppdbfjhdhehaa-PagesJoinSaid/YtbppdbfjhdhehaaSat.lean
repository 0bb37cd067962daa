/- The contracts of package satur's additions and products at this translation. -/
import Derived.Test.YtbppdbfjhdhehaaProg
import Derived.Test.YtbppdbfjhdhehaaBits
import Derived.Test.YtbppdbfjhdhehaaWords
import Derived.WalkKit
import Derived.ProofKit
import Derived.Handy
namespace Go.Proofs.Ytbppdbfjhdhehaa
open Go.RowKit
set_option linter.unusedVariables false
set_option linter.unusedSimpArgs false
end Go.Proofs.Ytbppdbfjhdhehaa
