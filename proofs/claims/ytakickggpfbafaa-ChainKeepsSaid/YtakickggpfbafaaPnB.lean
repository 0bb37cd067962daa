/- The reference's AddPin, with its errors. -/
import Derived.Test.YtakickggpfbafaaPnA
namespace Go.Proofs.Ytakickggpfbafaa
open Go.RowKit
set_option linter.unusedVariables false
set_option linter.unusedSimpArgs false
end Go.Proofs.Ytakickggpfbafaa
