/- The contracts of satur.CeilDiv, and of satur.MulDiv where the product fits into a word, at this translation. -/
import Derived.Test.YtjojgpccmedhpaaDoorSat
import Derived.Lib.Hide
import Derived.RegionTactic
import Derived.ChangeAlike
import Derived.Deep.QuietTactic
import Derived.BigQuiet
namespace Go.Proofs.YtjojgpccmedhpaaDoor
open Go.RowKit
set_option linter.unusedVariables false
set_option linter.unusedSimpArgs false
/-- a / b rounded up. -/
def cdivN (a b : Int) : Int := if 0 < a % b then a / b + 1 else a / b
theorem ceil_ok (a b : Int) (w : World) (a0 : 0 ≤ a) (a1 : a ≤ 9223372036854775807) (b0 : 1 ≤ b) (b1 : b ≤ 9223372036854775807) :
    Calls Tryd.prog 15 #[.int .i64 a, .int .i64 b] w fun e w' => e = .returned (.tuple #[.int .i64 (cdivN a b), .int .i64 0]) ∧ w = w' := by
  have q0 : 0 ≤ a / b := Int.ediv_nonneg a0 (by omega)
  have q1 : a / b ≤ a := Int.ediv_le_self b a0
  have r0 : 0 ≤ a % b := Int.emod_nonneg a (by omega)
  have qr := Int.mul_ediv_add_emod a b
  by_cases h : 0 < a % b
  · have q2 : a / b ≠ 9223372036854775807 := by
      intro h2
      have h3 : a = 9223372036854775807 := by omega
      have h4 : b = 1 := by
        rw [h2] at qr
        omega
      rw [h4] at h
      omega
    have q3 : a / b < 9223372036854775807 := by omega
    clear q2
    have e : cdivN a b = a / b + 1 := by unfold cdivN; rw [if_pos h]
    rw [e]
    clear e qr
    go_enter Tryd.func15, Tryd.ntmps15
    go_wp2
    go_ret2
    exact ⟨rfl, rfl⟩
  · have e : cdivN a b = a / b := by unfold cdivN; rw [if_neg h]
    rw [e]
    clear e qr
    go_enter Tryd.func15, Tryd.ntmps15
    go_wp2
    go_ret2
    exact ⟨rfl, rfl⟩
theorem ceil_err (a b : Int) (w : World) (h : a < 0 ∨ b < 1) :
    Calls Tryd.prog 15 #[.int .i64 a, .int .i64 b] w fun e w' => e = .returned (.tuple #[.int .i64 0, .int .i64 5]) ∧ w = w' := by
  by_cases h1 : a < 0
  · clear h
    go_enter Tryd.func15, Tryd.ntmps15
    go_wp2
    go_ret2
    exact ⟨rfl, rfl⟩
  · have h2 : b < 1 := by omega
    clear h
    go_enter Tryd.func15, Tryd.ntmps15
    go_wp2
    go_ret2
    exact ⟨rfl, rfl⟩
/-- Div64 of one word. -/
theorem div64_low (lo y : Int) (w : World) (a0 : 0 ≤ lo) (a1 : lo ≤ 18446744073709551615) (b0 : 1 ≤ y) (b1 : y ≤ 18446744073709551615) :
    Calls Tryd.prog 26 #[.int .u64 0, .int .u64 lo, .int .u64 y] w fun e w' => e = .returned (.tuple #[.int .u64 (lo / y), .int .u64 (lo % y)]) ∧ ∃ n, w' = w.drewN n := by
  have q0 : 0 ≤ lo / y := Int.ediv_nonneg a0 (by omega)
  have q1 : lo / y ≤ lo := Int.ediv_le_self y a0
  have r0 : 0 ≤ lo % y := Int.emod_nonneg lo (by omega)
  have r1 : lo % y < y := Int.emod_lt_of_pos lo (by omega)
  have hy : ¬ y = 0 := by omega
  go_enter Tryd.func26, Tryd.ntmps26
  go_wp2
  go_quiet (fail)
  go_wp2
  go_ret2
  exact ⟨rfl, _, rfl⟩
/-- The product fits into one word. -/
theorem mul64_low (x y p : Int) (hp : x * y = p) (a0 : 0 ≤ x) (a1 : x ≤ 18446744073709551615) (b0 : 0 ≤ y) (b1 : y ≤ 18446744073709551615) (p0 : 0 ≤ p) (p1 : p ≤ 18446744073709551615) (w : World) :
    Calls Tryd.prog 24 #[.int .u64 x, .int .u64 y] w fun e w' => e = .returned (.tuple #[.int .u64 0, .int .u64 p]) ∧ w = w' := by
  obtain ⟨hi, lo, h0, h1, l0, l1, e, c⟩ := mul64_int x y a0 a1 b0 b1
  have e1 : hi = 0 := by omega
  have e2 : lo = p := by omega
  subst e1 e2
  exact c w
/-- MulDiv where the product is a word: the exact quotient. -/
theorem muldiv_low (a b c p q : Int) (w : World) (hp : a * b = p) (hq : p / c = q) (a0 : 0 ≤ a) (a1 : a ≤ 9223372036854775807) (b0 : 0 ≤ b) (b1 : b ≤ 9223372036854775807) (c0 : 1 ≤ c) (c1 : c ≤ 9223372036854775807) (p0 : 0 ≤ p) (p1 : p ≤ 18446744073709551615) (q1 : q ≤ 4611686018427387904) :
    Calls Tryd.prog 13 #[.int .i64 a, .int .i64 b, .int .i64 c] w fun e w' => e = .returned (.tuple #[.int .i64 q, .int .i64 0]) ∧ ∃ n, w' = w.drewN n := by
  have q0 : 0 ≤ q := hq ▸ Int.ediv_nonneg p0 (by omega)
  have hm := fun w => mul64_low a b p hp a0 (by omega) b0 (by omega) p0 p1 w
  have hd := fun w => hq ▸ div64_low p c w p0 p1 c0 (by omega)
  generalize p % c = r at hd
  clear hp hq
  have h1 : ¬ a < 0 := by omega
  have h2 : ¬ b < 0 := by omega
  have h3 : ¬ c < 1 := by omega
  go_enter Tryd.func13, Tryd.ntmps13
  go_wp2_with (first | (go_at_call 24; refine (hm _).mono ?_; rintro e w' ⟨rfl, rfl⟩) | (go_at_call 26; refine (hd _).mono ?_; rintro e w' ⟨rfl, n, rfl⟩))
  go_ret2
  exact ⟨rfl, _, rfl⟩
end Go.Proofs.YtjojgpccmedhpaaDoor
