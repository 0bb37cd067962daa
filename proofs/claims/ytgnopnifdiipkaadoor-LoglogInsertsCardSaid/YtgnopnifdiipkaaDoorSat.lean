/- The contracts of package satur's additions and products at this translation. -/
import Derived.Test.YtgnopnifdiipkaaDoorProg
import Derived.Test.YtgnopnifdiipkaaDoorBits
import Derived.Test.YtgnopnifdiipkaaDoorWords
import Derived.WalkKit
import Derived.ProofKit
import Derived.Handy
namespace Go.Proofs.YtgnopnifdiipkaaDoor
open Go.RowKit
set_option linter.unusedVariables false
set_option linter.unusedSimpArgs false
/-- Mul64 over whole numbers: two words whose number is the product. -/
theorem mul64_int (x y : Int) (a0 : 0 ≤ x) (a1 : x ≤ 18446744073709551615) (b0 : 0 ≤ y) (b1 : y ≤ 18446744073709551615) :
    ∃ hi lo : Int, 0 ≤ hi ∧ hi ≤ 18446744073709551615 ∧ 0 ≤ lo ∧ lo ≤ 18446744073709551615 ∧ x * y = hi * 18446744073709551616 + lo ∧
      ∀ w, Calls Tryd.prog 63 #[.int .u64 x, .int .u64 y] w fun e w' => e = .returned (.tuple #[.int .u64 hi, .int .u64 lo]) ∧ w = w' := by
  obtain ⟨n, rfl⟩ := Int.eq_ofNat_of_zero_le a0
  obtain ⟨m, rfl⟩ := Int.eq_ofNat_of_zero_le b0
  have hnm : n * m ≤ 18446744073709551615 * 18446744073709551615 := Nat.mul_le_mul (by omega) (by omega)
  refine ⟨((n * m / 18446744073709551616 : Nat) : Int), ((n * m % 18446744073709551616 : Nat) : Int), ?_, ?_, ?_, ?_, ?_, fun w => (Tryd.mul64 n m (by omega) (by omega) w).mono fun _ _ h => ⟨h.1, h.2.symm⟩⟩
  · omega
  · omega
  · omega
  · omega
  · rw [← Int.natCast_mul]; generalize n * m = k; omega
end Go.Proofs.YtgnopnifdiipkaaDoor
