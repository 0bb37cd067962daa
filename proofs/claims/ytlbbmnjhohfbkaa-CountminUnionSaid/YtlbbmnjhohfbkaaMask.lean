/- Plain numbers: the low bits of an int. No program. -/
import Derived.WalkKit
namespace Go.Proofs.Ytlbbmnjhohfbkaa
open Go.RowKit
set_option linter.unusedVariables false
set_option linter.unusedSimpArgs false
theorem i64_mask (k : Nat) (hk : k < 63) (n : Int) : bits .and .i64 n ((2 ^ k - 1 : Nat) : Int) = n % ((2 ^ k : Nat) : Int) := by
  have hp : 2 ^ k ≤ 2 ^ 62 := Nat.pow_le_pow_right (by decide) (by omega)
  have h62 : (2 : Nat) ^ 62 = 4611686018427387904 := by decide
  have hpos : 0 < 2 ^ k := Nat.two_pow_pos k
  have hm : (BitVec.ofInt 64 ((2 ^ k - 1 : Nat) : Int)).toNat = 2 ^ k - 1 := by
    rw [BitVec.ofInt_natCast, BitVec.toNat_ofNat]; exact Nat.mod_eq_of_lt (by omega)
  have key : (BitVec.ofInt 64 n &&& BitVec.ofInt 64 ((2 ^ k - 1 : Nat) : Int)).toNat = (n % ((2 ^ 64 : Nat) : Int)).toNat % 2 ^ k := by
    rw [BitVec.toNat_and, BitVec.toNat_ofInt, hm, Nat.and_two_pow_sub_one_eq_mod]
  have hdvd : (((2 ^ k : Nat) : Int)) ∣ ((2 ^ 64 : Nat) : Int) := Int.natCast_dvd_natCast.2 (Nat.pow_dvd_pow 2 (by omega))
  have hemod := Int.emod_emod_of_dvd n hdvd
  have h0 : 0 ≤ n % ((2 ^ 64 : Nat) : Int) := Int.emod_nonneg n (by decide)
  have hl : n % ((2 ^ k : Nat) : Int) < ((2 ^ k : Nat) : Int) := Int.emod_lt_of_pos n (by omega)
  have hn : 0 ≤ n % ((2 ^ k : Nat) : Int) := Int.emod_nonneg n (by omega)
  show IntKind.i64.wrap ((BitVec.ofInt 64 n &&& BitVec.ofInt 64 ((2 ^ k - 1 : Nat) : Int)).toNat : Int) = n % ((2 ^ k : Nat) : Int)
  rw [key, Int.natCast_emod, Int.toNat_of_nonneg h0, hemod, IntKind.wrap_i64]
  omega
theorem i64_mask40 (n : Int) : bits .and .i64 n 1099511627775 = n % 1099511627776 := i64_mask 40 (by decide) n
theorem i64_mask41 (n : Int) : bits .and .i64 n 2199023255551 = n % 2199023255552 := i64_mask 41 (by decide) n
theorem i64_mask30 (n : Int) : bits .and .i64 n 1073741823 = n % 1073741824 := i64_mask 30 (by decide) n
theorem i64_mask20 (n : Int) : bits .and .i64 n 1048575 = n % 1048576 := i64_mask 20 (by decide) n
theorem u64_bit (x j : Nat) (hx : x < 18446744073709551616) : bits .and .u64 ((x : Int) / 2 ^ j) 1 = if x.testBit j then 1 else 0 := by
  have e : (x : Int) / 2 ^ j = ((x / 2 ^ j : Nat) : Int) := by simp
  have hle : x / 2 ^ j ≤ x := Nat.div_le_self _ _
  rw [e]
  have h := bits_and_u64_nat (x / 2 ^ j) 1 (by omega) (by omega)
  rw [Nat.and_one_is_mod] at h
  have h' : bits .and .u64 ((x / 2 ^ j : Nat) : Int) 1 = ((x / 2 ^ j % 2 : Nat) : Int) := h
  rw [h', Nat.testBit_eq_decide_div_mod_eq]
  by_cases hb : x / 2 ^ j % 2 = 1
  · simp [hb]
  · have : x / 2 ^ j % 2 = 0 := by omega
    simp [this]
theorem i64_bit (x j : Nat) (hx : x < 9223372036854775808) : bits .and .i64 ((x : Int) / 2 ^ j) 1 = if x.testBit j then 1 else 0 := by
  have e : (x : Int) / 2 ^ j = ((x / 2 ^ j : Nat) : Int) := by simp
  rw [e]
  have h := i64_mask 1 (by decide) ((x / 2 ^ j : Nat) : Int)
  have h' : bits .and .i64 ((x / 2 ^ j : Nat) : Int) 1 = ((x / 2 ^ j % 2 : Nat) : Int) := by
    rw [Int.natCast_emod]; exact h
  rw [h', Nat.testBit_eq_decide_div_mod_eq]
  by_cases hb : x / 2 ^ j % 2 = 1
  · simp [hb]
  · have : x / 2 ^ j % 2 = 0 := by omega
    simp [this]
end Go.Proofs.Ytlbbmnjhohfbkaa
