/- The reference's AddPin, with its errors. -/
import Derived.Test.YtpehbfghajlgmaaGreatPnA
namespace Go.Proofs.YtpehbfghajlgmaaGreat
open Go.RowKit
set_option linter.unusedVariables false
set_option linter.unusedSimpArgs false
end Go.Proofs.YtpehbfghajlgmaaGreat
