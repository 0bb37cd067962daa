/- The walks of the laws MixerWords, MixerInjective, MixerTables. -/
import Derived.Test.YtmahhkddojcinaaMixRow
import Derived.Test.YtmahhkddojcinaaKnown2
namespace Go.Proofs.Ytmahhkddojcinaa
open Go.RowKit
set_option linter.unusedVariables false
set_option linter.unusedSimpArgs false
theorem mixerWords_walk (x row : Int) (W : World) (w0 : (Lit.int .u64 x).wf = true) (w1 : (Lit.int .i64 row).wf = true) :
    Calls Try.prog 3 #[.int .u64 x, .int .i64 row] W fun e w' => e = .returned (.bool true) ∧ Below W.heap.size W w' := by
  clear w0 w1
  go_enter Try.func3, Try.ntmps3
  go_wp2_with (first
    | (go_at_call 8; refine (mix_any _ _).mono ?_; rintro e w' ⟨rfl, rfl⟩)
    | (go_at_call 9; refine (rmix_any _ _).mono ?_; rintro e w' ⟨rfl, rfl⟩)
    | (go_at_call 10; refine (row_any _ _ _).mono ?_; rintro e w' ⟨rfl, rfl⟩)
    | (go_at_call 11; refine (rrow_any _ _ _).mono ?_; rintro e w' ⟨rfl, rfl⟩)
    | (go_at_call 12; refine (known_any _).mono ?_; rintro e w' ⟨rfl, hb⟩))
  go_ret
  exact ⟨rfl, hb⟩
theorem mixerInjective_walk (x y : Int) (W : World) (w0 : (Lit.int .u64 x).wf = true) (w1 : (Lit.int .u64 y).wf = true) :
    Calls Try.prog 7 #[.int .u64 x, .int .u64 y] W fun e w' => e = .returned (.bool true) ∧ Below W.heap.size W w' := by
  have b0 := wf_bdu w0
  have b1 := wf_bdu w1
  have he := mixI_eq x y b0.1 b0.2 b1.1 b1.2
  clear w0 w1 b0 b1
  go_enter Try.func7, Try.ntmps7
  go_wp2_with (first
    | (go_at_call 8; refine (mix_any _ _).mono ?_; rintro e w' ⟨rfl, rfl⟩)
    | (go_at_call 12; refine (known_any _).mono ?_; rintro e w' ⟨rfl, hb⟩))
  go_ret
  exact ⟨rfl, hb⟩
end Go.Proofs.Ytmahhkddojcinaa
