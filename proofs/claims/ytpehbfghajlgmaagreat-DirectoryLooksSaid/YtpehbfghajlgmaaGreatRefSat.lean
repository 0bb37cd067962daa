/- The contracts of the document's own saturating sums and products (package sketchstoreref1) at this translation. -/
import Derived.Test.YtpehbfghajlgmaaGreatSat
import Derived.Lib.Hide
namespace Go.Proofs.YtpehbfghajlgmaaGreat
open Go.RowKit
set_option linter.unusedVariables false
set_option linter.unusedSimpArgs false
/-- The lower half of a word. -/
theorem low32 (x : Int) (h0 : 0 ≤ x) (h1 : x ≤ 18446744073709551615) : bits .and .u64 x 4294967295 = x % 4294967296 := and_low32 x h0 (by omega)
/-- A shifted half and another half joined. -/
theorem join32 (m d : Int) (h0 : 0 ≤ m) (h2 : 0 ≤ d) (h3 : d < 4294967296) :
    bits .or .u64 (IntKind.u64.wrap (m * 4294967296)) d = m % 4294967296 * 4294967296 + d := by
  obtain ⟨n, hn⟩ := Int.eq_ofNat_of_zero_le (show 0 ≤ m % 4294967296 by omega)
  obtain ⟨k, rfl⟩ := Int.eq_ofNat_of_zero_le h2
  have e : IntKind.u64.wrap (m * 4294967296) = ((n * 4294967296 : Nat) : Int) := by rw [IntKind.wrap_u64]; omega
  rw [e, bits_or_u64_nat (n * 4294967296) k (by omega) (by omega), hn]
  have hk : k < 2 ^ 32 := by omega
  have h := Nat.shiftLeft_add_eq_or_of_lt hk n
  rw [Nat.shiftLeft_eq] at h
  have h' : n * 4294967296 ||| k = n * 4294967296 + k := h.symm
  rw [h']
  omega
end Go.Proofs.YtpehbfghajlgmaaGreat
