/- The contracts of package satur's additions and products at this translation. -/
import Derived.Test.YtpehbfghajlgmaaProg
import Derived.Test.YtpehbfghajlgmaaBits
import Derived.Test.YtpehbfghajlgmaaWords
import Derived.WalkKit
import Derived.ProofKit
import Derived.Handy
namespace Go.Proofs.Ytpehbfghajlgmaa
open Go.RowKit
set_option linter.unusedVariables false
set_option linter.unusedSimpArgs false
end Go.Proofs.Ytpehbfghajlgmaa
