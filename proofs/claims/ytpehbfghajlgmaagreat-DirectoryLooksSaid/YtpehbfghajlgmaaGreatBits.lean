/- The contracts of math/bits.LeadingZeros64, Len64, Mul64 and TrailingZeros64 at this translation: laid from the library's shelf; the last one where the table is laid. -/
import Derived.Shelf.Small.Bits
import Derived.Shelf.Strconv.Itoa0
import Derived.Shelf.Bits.Mul64
import Derived.Shelf.Spec.TrailingZeros
import Derived.Test.YtpehbfghajlgmaaGreatProg
namespace Go.Proofs
open Go.Shelf
end Go.Proofs
