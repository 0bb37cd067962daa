/- The contracts of the document's own saturating sums and products (package sketchstoreref1) at this translation. -/
import Derived.Test.YtledpfdflcmlcaaSat
import Derived.Lib.Hide
namespace Go.Proofs.Ytledpfdflcmlcaa
open Go.RowKit
set_option linter.unusedVariables false
set_option linter.unusedSimpArgs false
theorem natural_any (n : Int) (w : World) (h0 : -9223372036854775808 ≤ n) (h1 : n ≤ 9223372036854775807) :
    Calls Try.prog 31 #[.int .i64 n] w fun e w' => e = .returned (.int .i64 (nat0 n)) ∧ w = w' := by
  go_enter Try.func31, Try.ntmps31
  go_wp2
  go_ret
  exact ⟨ret_int (by unfold nat0; rfl), rfl⟩
theorem ref_add_any (a b most : Int) (w : World) (a0 : -9223372036854775808 ≤ a) (a1 : a ≤ 9223372036854775807) (b0 : -9223372036854775808 ≤ b) (b1 : b ≤ 9223372036854775807) (h0 : -9223372036854775808 ≤ most) (h1 : most ≤ 9223372036854775807) :
    Calls Try.prog 24 #[.int .i64 a, .int .i64 b, .int .i64 most] w fun e w' => e = .returned (.tuple #[.int .i64 (satN (nat0 a + nat0 b) (nat0 most)), .bool (satF (nat0 a + nat0 b) (nat0 most))]) ∧ w = w' := by
  have ha := nat0_bd a a1
  have hb := nat0_bd b b1
  have hm := nat0_bd most h1
  by_cases h : nat0 most < nat0 a + nat0 b
  · have e1 : satN (nat0 a + nat0 b) (nat0 most) = nat0 most := by unfold satN; rw [if_pos h]
    have e2 : satF (nat0 a + nat0 b) (nat0 most) = true := by unfold satF; simpa using h
    rw [e1, e2]
    clear e1 e2
    by_cases h2 : nat0 most < nat0 a
    all_goals
      go_enter Try.func24, Try.ntmps24
      go_wp2_with (go_at_call 31; refine (natural_any _ _ (by omega) (by omega)).mono ?_; rintro e w' ⟨rfl, rfl⟩)
      go_ret2
      exact ⟨rfl, rfl⟩
  · have e1 : satN (nat0 a + nat0 b) (nat0 most) = nat0 a + nat0 b := by unfold satN; rw [if_neg h]
    have e2 : satF (nat0 a + nat0 b) (nat0 most) = false := by unfold satF; simpa using h
    rw [e1, e2]
    clear e1 e2
    have h2 : ¬ nat0 most < nat0 a := by omega
    have h3 : ¬ nat0 most - nat0 a < nat0 b := by omega
    go_enter Try.func24, Try.ntmps24
    go_wp2_with (go_at_call 31; refine (natural_any _ _ (by omega) (by omega)).mono ?_; rintro e w' ⟨rfl, rfl⟩)
    go_ret2
    exact ⟨rfl, rfl⟩
/-- The lower half of a word. -/
theorem low32 (x : Int) (h0 : 0 ≤ x) (h1 : x ≤ 18446744073709551615) : bits .and .u64 x 4294967295 = x % 4294967296 := and_low32 x h0 (by omega)
/-- A shifted half and another half joined. -/
theorem join32 (m d : Int) (h0 : 0 ≤ m) (h2 : 0 ≤ d) (h3 : d < 4294967296) :
    bits .or .u64 (IntKind.u64.wrap (m * 4294967296)) d = m % 4294967296 * 4294967296 + d := by
  obtain ⟨n, hn⟩ := Int.eq_ofNat_of_zero_le (show 0 ≤ m % 4294967296 by omega)
  obtain ⟨k, rfl⟩ := Int.eq_ofNat_of_zero_le h2
  have e : IntKind.u64.wrap (m * 4294967296) = ((n * 4294967296 : Nat) : Int) := by rw [IntKind.wrap_u64]; omega
  rw [e, bits_or_u64_nat (n * 4294967296) k (by omega) (by omega), hn]
  have hk : k < 2 ^ 32 := by omega
  have h := Nat.shiftLeft_add_eq_or_of_lt hk n
  rw [Nat.shiftLeft_eq] at h
  have h' : n * 4294967296 ||| k = n * 4294967296 + k := h.symm
  rw [h']
  omega
end Go.Proofs.Ytledpfdflcmlcaa
