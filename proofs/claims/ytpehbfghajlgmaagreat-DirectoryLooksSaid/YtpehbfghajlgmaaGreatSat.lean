/- The contracts of package satur's additions and products at this translation. -/
import Derived.Test.YtpehbfghajlgmaaGreatProg
import Derived.Test.YtpehbfghajlgmaaGreatBits
import Derived.Test.YtpehbfghajlgmaaGreatWords
import Derived.WalkKit
import Derived.ProofKit
import Derived.Handy
namespace Go.Proofs.YtpehbfghajlgmaaGreat
open Go.RowKit
set_option linter.unusedVariables false
set_option linter.unusedSimpArgs false
end Go.Proofs.YtpehbfghajlgmaaGreat
