/- The contracts of package satur's additions and products at this translation. -/
import Derived.Test.YtledpfdflcmlcaaProg
import Derived.Test.YtledpfdflcmlcaaBits
import Derived.Test.YtledpfdflcmlcaaWords
import Derived.WalkKit
import Derived.ProofKit
import Derived.Handy
namespace Go.Proofs.Ytledpfdflcmlcaa
open Go.RowKit
set_option linter.unusedVariables false
set_option linter.unusedSimpArgs false
end Go.Proofs.Ytledpfdflcmlcaa
