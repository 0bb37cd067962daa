/- The contracts of Mix of package mixer, and of the reference's. -/
import Derived.Test.YtmahhkddojcinaaProg
import Derived.Test.YtmahhkddojcinaaMixNums
import Derived.ProofKit
import Derived.Handy
namespace Go.Proofs.Ytmahhkddojcinaa
open Go.RowKit
theorem mix_any (x : Int) (w : World) :
    Calls Try.prog 8 #[.int .u64 x] w fun e w' => e = .returned (.int .u64 (mixI x)) ∧ w = w' := by
  go_enter Try.func8, Try.ntmps8
  go_wp2
  go_ret
  exact ⟨rfl, rfl⟩
theorem rmix_any (x : Int) (w : World) :
    Calls Try.prog 9 #[.int .u64 x] w fun e w' => e = .returned (.int .u64 (mixI x)) ∧ w = w' := by
  go_enter Try.func9, Try.ntmps9
  go_wp2
  go_ret
  exact ⟨rfl, rfl⟩
end Go.Proofs.Ytmahhkddojcinaa
