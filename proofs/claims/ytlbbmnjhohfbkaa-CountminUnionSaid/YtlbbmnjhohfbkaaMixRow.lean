/- The contracts of Row of package mixer, and of the reference's. -/
import Derived.Test.YtlbbmnjhohfbkaaMix
import Derived.Test.YtlbbmnjhohfbkaaNums
namespace Go.Proofs.Ytlbbmnjhohfbkaa
open Go.RowKit
def rowI (seed row : Int) : Int := mixI (bits .xor .u64 seed (IntKind.u64.wrap (IntKind.u64.wrap (IntKind.u64.wrap row + 1) * 15074714826142052245)))
theorem row_any (seed row : Int) (w : World) :
    Calls Try.prog 38 #[.int .u64 seed, .int .i64 row] w fun e w' => e = .returned (.int .u64 (rowI seed row)) ∧ w = w' := by
  go_enter Try.func38, Try.ntmps38
  go_wp2_with (go_at_call 63; refine (mix_any _ _).mono ?_; rintro e w' ⟨rfl, rfl⟩)
  go_ret
  exact ⟨rfl, rfl⟩
theorem rrow_any (seed row : Int) (w : World) :
    Calls Try.prog 42 #[.int .u64 seed, .int .i64 row] w fun e w' => e = .returned (.int .u64 (rowI seed row)) ∧ w = w' := by
  go_enter Try.func42, Try.ntmps42
  go_wp2_with (go_at_call 64; refine (rmix_any _ _).mono ?_; rintro e w' ⟨rfl, rfl⟩)
  go_ret
  exact ⟨rfl, rfl⟩
end Go.Proofs.Ytlbbmnjhohfbkaa
