/- The contracts of Mix of package mixer, and of the reference's. -/
import Derived.Test.YtlbbmnjhohfbkaaProg
import Derived.Test.YtlbbmnjhohfbkaaMixNums
import Derived.ProofKit
import Derived.Handy
namespace Go.Proofs.Ytlbbmnjhohfbkaa
open Go.RowKit
theorem mix_any (x : Int) (w : World) :
    Calls Try.prog 63 #[.int .u64 x] w fun e w' => e = .returned (.int .u64 (mixI x)) ∧ w = w' := by
  go_enter Try.func63, Try.ntmps63
  go_wp2
  go_ret
  exact ⟨rfl, rfl⟩
theorem rmix_any (x : Int) (w : World) :
    Calls Try.prog 64 #[.int .u64 x] w fun e w' => e = .returned (.int .u64 (mixI x)) ∧ w = w' := by
  go_enter Try.func64, Try.ntmps64
  go_wp2
  go_ret
  exact ⟨rfl, rfl⟩
end Go.Proofs.Ytlbbmnjhohfbkaa
