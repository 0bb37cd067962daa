/- The reference's AddPin, with its errors. -/
import Derived.Test.YtpehbfghajlgmaaPnA
namespace Go.Proofs.Ytpehbfghajlgmaa
open Go.RowKit
set_option linter.unusedVariables false
set_option linter.unusedSimpArgs false
end Go.Proofs.Ytpehbfghajlgmaa
