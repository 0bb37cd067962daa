/- The contracts of Row of package mixer, and of the reference's. -/
import Derived.Test.YtmahhkddojcinaaMix
import Derived.Test.YtmahhkddojcinaaNums
namespace Go.Proofs.Ytmahhkddojcinaa
open Go.RowKit
def rowI (seed row : Int) : Int := mixI (bits .xor .u64 seed (IntKind.u64.wrap (IntKind.u64.wrap (IntKind.u64.wrap row + 1) * 15074714826142052245)))
theorem row_any (seed row : Int) (w : World) :
    Calls Try.prog 10 #[.int .u64 seed, .int .i64 row] w fun e w' => e = .returned (.int .u64 (rowI seed row)) ∧ w = w' := by
  go_enter Try.func10, Try.ntmps10
  go_wp2_with (go_at_call 8; refine (mix_any _ _).mono ?_; rintro e w' ⟨rfl, rfl⟩)
  go_ret
  exact ⟨rfl, rfl⟩
theorem rrow_any (seed row : Int) (w : World) :
    Calls Try.prog 11 #[.int .u64 seed, .int .i64 row] w fun e w' => e = .returned (.int .u64 (rowI seed row)) ∧ w = w' := by
  go_enter Try.func11, Try.ntmps11
  go_wp2_with (go_at_call 9; refine (rmix_any _ _).mono ?_; rintro e w' ⟨rfl, rfl⟩)
  go_ret
  exact ⟨rfl, rfl⟩
end Go.Proofs.Ytmahhkddojcinaa
