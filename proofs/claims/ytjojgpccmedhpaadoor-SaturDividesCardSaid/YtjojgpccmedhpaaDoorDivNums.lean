/- Plain numbers: one digit of a long division in base 2^32 (the library's Div64), guessed too high and corrected. No program. -/
import Derived.WalkKit
namespace Go.Proofs.YtjojgpccmedhpaaDoor
open Go.RowKit
set_option linter.unusedVariables false
set_option linter.unusedSimpArgs false
/-- Y is a normalized divisor of the halves V1, V0; U32 * 2^32 + U1 is to be divided. -/
structure Digit (Y V1 V0 U32 U1 : Int) : Prop where
  y : Y = V1 * 4294967296 + V0
  v1 : 2147483648 ≤ V1
  v1' : V1 < 4294967296
  v0 : 0 ≤ V0
  v0' : V0 < 4294967296
  u : 0 ≤ U32
  u' : U32 < Y
  u1 : 0 ≤ U1
  u1' : U1 < 4294967296
/-- The true digit. -/
def dig (Y U32 U1 : Int) : Int := (U32 * 4294967296 + U1) / Y
/-- A guess q that is not too low, and what it leaves. -/
structure Guess (Y V1 U32 U1 q r : Int) : Prop where
  e : q * V1 + r = U32
  hi : dig Y U32 U1 ≤ q
  r0 : 0 ≤ r
variable {Y V1 V0 U32 U1 q r : Int}
theorem Digit.y0 (d : Digit Y V1 V0 U32 U1) : 0 < Y := by have := d.y; have := d.v1; have := d.v0; omega
theorem Digit.yb (d : Digit Y V1 V0 U32 U1) : 9223372036854775808 ≤ Y ∧ Y < 18446744073709551616 := by
  have := d.y; have := d.v1; have := d.v0; have := d.v1'; have := d.v0'; omega
theorem Digit.dig0 (d : Digit Y V1 V0 U32 U1) : 0 ≤ dig Y U32 U1 := Int.ediv_nonneg (by have := d.u; have := d.u1; omega) (Int.le_of_lt d.y0)
theorem Digit.dig_lt (d : Digit Y V1 V0 U32 U1) : dig Y U32 U1 < 4294967296 := by
  apply Int.ediv_lt_of_lt_mul d.y0
  have := d.u'; have := d.u1'; omega
theorem Digit.dig_mul (d : Digit Y V1 V0 U32 U1) : dig Y U32 U1 * Y ≤ U32 * 4294967296 + U1 := Int.ediv_mul_le _ (Int.ne_of_gt d.y0)
theorem mul_y (h : Y = V1 * 4294967296 + V0) (q : Int) : q * Y = q * V1 * 4294967296 + q * V0 := by rw [h, Int.mul_add, Int.mul_assoc]
theorem Digit.le_of (d : Digit Y V1 V0 U32 U1) (h : q * Y ≤ U32 * 4294967296 + U1) : q ≤ dig Y U32 U1 := (Int.le_ediv_iff_mul_le d.y0).2 h
theorem Digit.lt_of (d : Digit Y V1 V0 U32 U1) (h : U32 * 4294967296 + U1 < q * Y) : dig Y U32 U1 < q := Int.ediv_lt_of_lt_mul d.y0 h
/-- The first guess. -/
theorem Digit.start (d : Digit Y V1 V0 U32 U1) : Guess Y V1 U32 U1 (U32 / V1) (U32 - U32 / V1 * V1) := by
  have hv : 0 < V1 := by have := d.v1; omega
  refine ⟨by omega, ?_, ?_⟩
  · apply (Int.le_ediv_iff_mul_le hv).2
    have h := d.dig_mul
    rw [mul_y d.y] at h
    have h0 : 0 ≤ dig Y U32 U1 * V0 := Int.mul_nonneg d.dig0 d.v0
    have := d.u1'
    omega
  · have := Int.ediv_mul_le U32 (Int.ne_of_gt hv)
    omega
/-- The guess is too high. -/
theorem Guess.step (d : Digit Y V1 V0 U32 U1) (g : Guess Y V1 U32 U1 q r) (h : 4294967296 ≤ q ∨ 4294967296 * r + U1 < q * V0) : Guess Y V1 U32 U1 (q - 1) (r + V1) := by
  have hv := d.v1
  have hr := g.r0
  refine ⟨?_, ?_, by omega⟩
  · have := g.e
    rw [Int.sub_mul, Int.one_mul]; omega
  · rcases h with h | h
    · have := d.dig_lt; omega
    · have h2 : dig Y U32 U1 < q := by
        apply d.lt_of
        rw [mul_y d.y, ← g.e, Int.add_mul]
        omega
      omega
/-- The guess passes the test. -/
theorem Guess.done (d : Digit Y V1 V0 U32 U1) (g : Guess Y V1 U32 U1 q r) (h : q * V0 ≤ 4294967296 * r + U1) : q = dig Y U32 U1 := by
  have h2 : q ≤ dig Y U32 U1 := by
    apply d.le_of
    rw [mul_y d.y, ← g.e, Int.add_mul]
    omega
  have := g.hi
  omega
/-- What is left is so much that the guess cannot be too high. -/
theorem Guess.far (d : Digit Y V1 V0 U32 U1) (g : Guess Y V1 U32 U1 q r) (h : 4294967296 ≤ r) : q = dig Y U32 U1 := by
  have hq0 : 0 ≤ q := Int.le_trans d.dig0 g.hi
  have hlt : q < 4294967296 := by
    have h1 : q * V1 < 4294967296 * V1 := by
      have := g.e; have := d.u'; have := d.y; have := d.v0'; omega
    exact Int.lt_of_mul_lt_mul_right h1 (by have := d.v1; omega)
  apply g.done d
  have h2 : q * V0 ≤ 4294967295 * 4294967295 := Int.mul_le_mul (by omega) (by have := d.v0'; omega) d.v0 (by omega)
  have := d.u1
  omega
theorem Guess.bound (d : Digit Y V1 V0 U32 U1) (g : Guess Y V1 U32 U1 q r) : 0 ≤ q ∧ q ≤ U32 := by
  have hq0 : 0 ≤ q := Int.le_trans d.dig0 g.hi
  refine ⟨hq0, ?_⟩
  have h1 : q * 1 ≤ q * V1 := Int.mul_le_mul_of_nonneg_left (by have := d.v1; omega) hq0
  have := g.e; have := g.r0; omega
/-- What the digit leaves. -/
theorem Digit.left (d : Digit Y V1 V0 U32 U1) : U32 * 4294967296 + U1 - dig Y U32 U1 * Y = (U32 * 4294967296 + U1) % Y ∧ 0 ≤ (U32 * 4294967296 + U1) % Y ∧ (U32 * 4294967296 + U1) % Y < Y := by
  refine ⟨?_, Int.emod_nonneg _ (Int.ne_of_gt d.y0), Int.emod_lt_of_pos _ d.y0⟩
  rw [Int.emod_def, Int.mul_comm Y]; rfl
/-- The two digits are the quotient. -/
theorem two_digits (y0 : 0 < Y) (U32 U1 U0 : Int) :
    ((U32 * 4294967296 + U1) * 4294967296 + U0) / Y = (U32 * 4294967296 + U1) / Y * 4294967296 + ((U32 * 4294967296 + U1) % Y * 4294967296 + U0) / Y := by
  have e := Int.emod_add_mul_ediv (U32 * 4294967296 + U1) Y
  generalize hU : U32 * 4294967296 + U1 = U at *
  have h : U * 4294967296 + U0 = (U % Y * 4294967296 + U0) + Y * (U / Y * 4294967296) := by
    conv => lhs; rw [← e]
    rw [Int.add_mul, Int.mul_assoc]; omega
  rw [h, Int.add_mul_ediv_left _ _ (Int.ne_of_gt y0)]
  omega
end Go.Proofs.YtjojgpccmedhpaaDoor
