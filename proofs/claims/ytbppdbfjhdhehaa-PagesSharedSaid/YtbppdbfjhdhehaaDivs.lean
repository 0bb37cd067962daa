/- DivNums, Div, DivW, MulDiv, RefDiv: in one text. -/
import Derived.Test.YtbppdbfjhdhehaaSat
import Derived.Test.YtbppdbfjhdhehaaRefSat
import Derived.Test.YtbppdbfjhdhehaaWords
import Derived.WalkKit
import Derived.Lib.Hide
import Derived.RegionTactic
import Derived.ChangeAlike
import Derived.Deep.QuietTactic
import Derived.BigQuiet
import Derived.Deep.CutBlock
import Derived.Deep.CutRange
import Derived.Deep.LoopGhost
namespace Go.Proofs.Ytbppdbfjhdhehaa
open Go.RowKit
set_option linter.unusedVariables false
set_option linter.unusedSimpArgs false
/-- Y is a normalized divisor of the halves V1, V0; U32 * 2^32 + U1 is to be divided. -/
structure Digit (Y V1 V0 U32 U1 : Int) : Prop where
  y : Y = V1 * 4294967296 + V0
  v1 : 2147483648 ≤ V1
  v1' : V1 < 4294967296
  v0 : 0 ≤ V0
  v0' : V0 < 4294967296
  u : 0 ≤ U32
  u' : U32 < Y
  u1 : 0 ≤ U1
  u1' : U1 < 4294967296
/-- The true digit. -/
def dig (Y U32 U1 : Int) : Int := (U32 * 4294967296 + U1) / Y
/-- A guess q that is not too low, and what it leaves. -/
structure Guess (Y V1 U32 U1 q r : Int) : Prop where
  e : q * V1 + r = U32
  hi : dig Y U32 U1 ≤ q
  r0 : 0 ≤ r
variable {Y V1 V0 U32 U1 q r : Int}
theorem Digit.y0 (d : Digit Y V1 V0 U32 U1) : 0 < Y := by have := d.y; have := d.v1; have := d.v0; omega
theorem Digit.yb (d : Digit Y V1 V0 U32 U1) : 9223372036854775808 ≤ Y ∧ Y < 18446744073709551616 := by
  have := d.y; have := d.v1; have := d.v0; have := d.v1'; have := d.v0'; omega
theorem Digit.dig0 (d : Digit Y V1 V0 U32 U1) : 0 ≤ dig Y U32 U1 := Int.ediv_nonneg (by have := d.u; have := d.u1; omega) (Int.le_of_lt d.y0)
theorem Digit.dig_lt (d : Digit Y V1 V0 U32 U1) : dig Y U32 U1 < 4294967296 := by
  apply Int.ediv_lt_of_lt_mul d.y0
  have := d.u'; have := d.u1'; omega
theorem Digit.dig_mul (d : Digit Y V1 V0 U32 U1) : dig Y U32 U1 * Y ≤ U32 * 4294967296 + U1 := Int.ediv_mul_le _ (Int.ne_of_gt d.y0)
theorem mul_y (h : Y = V1 * 4294967296 + V0) (q : Int) : q * Y = q * V1 * 4294967296 + q * V0 := by rw [h, Int.mul_add, Int.mul_assoc]
theorem Digit.le_of (d : Digit Y V1 V0 U32 U1) (h : q * Y ≤ U32 * 4294967296 + U1) : q ≤ dig Y U32 U1 := (Int.le_ediv_iff_mul_le d.y0).2 h
theorem Digit.lt_of (d : Digit Y V1 V0 U32 U1) (h : U32 * 4294967296 + U1 < q * Y) : dig Y U32 U1 < q := Int.ediv_lt_of_lt_mul d.y0 h
/-- The first guess. -/
theorem Digit.start (d : Digit Y V1 V0 U32 U1) : Guess Y V1 U32 U1 (U32 / V1) (U32 - U32 / V1 * V1) := by
  have hv : 0 < V1 := by have := d.v1; omega
  refine ⟨by omega, ?_, ?_⟩
  · apply (Int.le_ediv_iff_mul_le hv).2
    have h := d.dig_mul
    rw [mul_y d.y] at h
    have h0 : 0 ≤ dig Y U32 U1 * V0 := Int.mul_nonneg d.dig0 d.v0
    have := d.u1'
    omega
  · have := Int.ediv_mul_le U32 (Int.ne_of_gt hv)
    omega
/-- The guess is too high. -/
theorem Guess.step (d : Digit Y V1 V0 U32 U1) (g : Guess Y V1 U32 U1 q r) (h : 4294967296 ≤ q ∨ 4294967296 * r + U1 < q * V0) : Guess Y V1 U32 U1 (q - 1) (r + V1) := by
  have hv := d.v1
  have hr := g.r0
  refine ⟨?_, ?_, by omega⟩
  · have := g.e
    rw [Int.sub_mul, Int.one_mul]; omega
  · rcases h with h | h
    · have := d.dig_lt; omega
    · have h2 : dig Y U32 U1 < q := by
        apply d.lt_of
        rw [mul_y d.y, ← g.e, Int.add_mul]
        omega
      omega
/-- The guess passes the test. -/
theorem Guess.done (d : Digit Y V1 V0 U32 U1) (g : Guess Y V1 U32 U1 q r) (h : q * V0 ≤ 4294967296 * r + U1) : q = dig Y U32 U1 := by
  have h2 : q ≤ dig Y U32 U1 := by
    apply d.le_of
    rw [mul_y d.y, ← g.e, Int.add_mul]
    omega
  have := g.hi
  omega
/-- What is left is so much that the guess cannot be too high. -/
theorem Guess.far (d : Digit Y V1 V0 U32 U1) (g : Guess Y V1 U32 U1 q r) (h : 4294967296 ≤ r) : q = dig Y U32 U1 := by
  have hq0 : 0 ≤ q := Int.le_trans d.dig0 g.hi
  have hlt : q < 4294967296 := by
    have h1 : q * V1 < 4294967296 * V1 := by
      have := g.e; have := d.u'; have := d.y; have := d.v0'; omega
    exact Int.lt_of_mul_lt_mul_right h1 (by have := d.v1; omega)
  apply g.done d
  have h2 : q * V0 ≤ 4294967295 * 4294967295 := Int.mul_le_mul (by omega) (by have := d.v0'; omega) d.v0 (by omega)
  have := d.u1
  omega
theorem Guess.bound (d : Digit Y V1 V0 U32 U1) (g : Guess Y V1 U32 U1 q r) : 0 ≤ q ∧ q ≤ U32 := by
  have hq0 : 0 ≤ q := Int.le_trans d.dig0 g.hi
  refine ⟨hq0, ?_⟩
  have h1 : q * 1 ≤ q * V1 := Int.mul_le_mul_of_nonneg_left (by have := d.v1; omega) hq0
  have := g.e; have := g.r0; omega
/-- What the digit leaves. -/
theorem Digit.left (d : Digit Y V1 V0 U32 U1) : U32 * 4294967296 + U1 - dig Y U32 U1 * Y = (U32 * 4294967296 + U1) % Y ∧ 0 ≤ (U32 * 4294967296 + U1) % Y ∧ (U32 * 4294967296 + U1) % Y < Y := by
  refine ⟨?_, Int.emod_nonneg _ (Int.ne_of_gt d.y0), Int.emod_lt_of_pos _ d.y0⟩
  rw [Int.emod_def, Int.mul_comm Y]; rfl
/-- The two digits are the quotient. -/
theorem two_digits (y0 : 0 < Y) (U32 U1 U0 : Int) :
    ((U32 * 4294967296 + U1) * 4294967296 + U0) / Y = (U32 * 4294967296 + U1) / Y * 4294967296 + ((U32 * 4294967296 + U1) % Y * 4294967296 + U0) / Y := by
  have e := Int.emod_add_mul_ediv (U32 * 4294967296 + U1) Y
  generalize hU : U32 * 4294967296 + U1 = U at *
  have h : U * 4294967296 + U0 = (U % Y * 4294967296 + U0) + Y * (U / Y * 4294967296) := by
    conv => lhs; rw [← e]
    rw [Int.add_mul, Int.mul_assoc]; omega
  rw [h, Int.add_mul_ediv_left _ _ (Int.ne_of_gt y0)]
  omega
/-- a / b rounded up. -/
def cdivN (a b : Int) : Int := if 0 < a % b then a / b + 1 else a / b
theorem ceil_ok (a b : Int) (w : World) (a0 : 0 ≤ a) (a1 : a ≤ 9223372036854775807) (b0 : 1 ≤ b) (b1 : b ≤ 9223372036854775807) :
    Calls Try.prog 20 #[.int .i64 a, .int .i64 b] w fun e w' => e = .returned (.tuple #[.int .i64 (cdivN a b), .int .i64 0]) ∧ w = w' := by
  have q0 : 0 ≤ a / b := Int.ediv_nonneg a0 (by omega)
  have q1 : a / b ≤ a := Int.ediv_le_self b a0
  have r0 : 0 ≤ a % b := Int.emod_nonneg a (by omega)
  have qr := Int.mul_ediv_add_emod a b
  by_cases h : 0 < a % b
  · have q2 : a / b ≠ 9223372036854775807 := by
      intro h2
      have h3 : a = 9223372036854775807 := by omega
      have h4 : b = 1 := by
        rw [h2] at qr
        omega
      rw [h4] at h
      omega
    have q3 : a / b < 9223372036854775807 := by omega
    clear q2
    have e : cdivN a b = a / b + 1 := by unfold cdivN; rw [if_pos h]
    rw [e]
    clear e qr
    go_enter Try.func20, Try.ntmps20
    go_wp2
    go_ret2
    exact ⟨rfl, rfl⟩
  · have e : cdivN a b = a / b := by unfold cdivN; rw [if_neg h]
    rw [e]
    clear e qr
    go_enter Try.func20, Try.ntmps20
    go_wp2
    go_ret2
    exact ⟨rfl, rfl⟩
theorem ceil_err (a b : Int) (w : World) (h : a < 0 ∨ b < 1) :
    Calls Try.prog 20 #[.int .i64 a, .int .i64 b] w fun e w' => e = .returned (.tuple #[.int .i64 0, .int .i64 5]) ∧ w = w' := by
  by_cases h1 : a < 0
  · clear h
    go_enter Try.func20, Try.ntmps20
    go_wp2
    go_ret2
    exact ⟨rfl, rfl⟩
  · have h2 : b < 1 := by omega
    clear h
    go_enter Try.func20, Try.ntmps20
    go_wp2
    go_ret2
    exact ⟨rfl, rfl⟩
theorem bitLen_log (x : Nat) (h0 : 0 < x) (h1 : x < 18446744073709551616) : ∃ k, k < 64 ∧ Lib.bitLen x = k + 1 ∧ 2 ^ k ≤ x ∧ x < 2 ^ (k + 1) := by
  have hle : 2 ^ x.log2 ≤ x := Nat.log2_self_le (by omega)
  have hlt : x < 2 ^ (x.log2 + 1) := Nat.lt_log2_self
  have hk : x.log2 < 64 := (Nat.log2_lt (by omega)).2 h1
  refine ⟨x.log2, hk, ?_, hle, hlt⟩
  have h2 : x / 2 ^ x.log2 = 1 := by
    have hp : 0 < 2 ^ x.log2 := Nat.two_pow_pos _
    rw [Nat.pow_succ] at hlt
    exact Nat.div_eq_of_lt_le (by omega) (by omega)
  rw [Lib.bitLen_shift _ x hle h1, h2, show Lib.bitLen 1 = 1 by decide]
/-- The divisor normalized, the dividend shifted with it. -/
theorem div_setup (hi lo y : Nat) (h0 : 0 < hi) (h1 : hi < y) (hy : y < 18446744073709551616) (hl : lo < 18446744073709551616) :
    ∃ s : Nat, s ≤ 63 ∧ (64 : Int) - (Lib.bitLen y : Int) = (s : Int) ∧ ∃ Y U32 U10 : Int, IntKind.u64.wrap ((y : Int) * 2 ^ s) = Y ∧ bits .or .u64 (IntKind.u64.wrap ((hi : Int) * 2 ^ s)) ((lo : Int) / 2 ^ (64 - s)) = U32 ∧
      IntKind.u64.wrap ((lo : Int) * 2 ^ s) = U10 ∧ 0 ≤ U10 ∧ U10 < 18446744073709551616 ∧ 9223372036854775808 ≤ Y ∧ Y < 18446744073709551616 ∧ 0 ≤ U32 ∧ U32 < Y ∧
      (U32 * 18446744073709551616 + U10) / Y = ((hi : Int) * 18446744073709551616 + lo) / y := by
  obtain ⟨k, hk, hb, hle, hlt⟩ := bitLen_log y (by omega) hy
  have hp : 0 < 2 ^ (63 - k) := Nat.two_pow_pos _
  have e63 : 2 ^ k * 2 ^ (63 - k) = 9223372036854775808 := by rw [← Nat.pow_add, show k + (63 - k) = 63 by omega]
  have e64 : 2 ^ (k + 1) * 2 ^ (63 - k) = 18446744073709551616 := by rw [← Nat.pow_add, show k + 1 + (63 - k) = 64 by omega]
  have e64' : 2 ^ (64 - (63 - k)) * 2 ^ (63 - k) = 18446744073709551616 := by rw [← Nat.pow_add, show 64 - (63 - k) + (63 - k) = 64 by omega]
  have hY1 : 9223372036854775808 ≤ y * 2 ^ (63 - k) := by rw [← e63]; exact Nat.mul_le_mul_right _ hle
  have hY2 : y * 2 ^ (63 - k) < 18446744073709551616 := by rw [← e64]; exact Nat.mul_lt_mul_of_pos_right hlt hp
  have hh : (hi + 1) * 2 ^ (63 - k) ≤ y * 2 ^ (63 - k) := Nat.mul_le_mul_right _ (by omega)
  rw [Nat.add_mul, Nat.one_mul] at hh
  have ht : lo / 2 ^ (64 - (63 - k)) < 2 ^ (63 - k) := by
    apply Nat.div_lt_of_lt_mul
    rw [e64']; exact hl
  have hq : lo * 2 ^ (63 - k) / 18446744073709551616 = lo / 2 ^ (64 - (63 - k)) := by
    rw [← e64']; exact Nat.mul_div_mul_right _ _ hp
  have hor : bits .or .u64 (IntKind.u64.wrap ((hi : Int) * 2 ^ (63 - k))) ((lo : Int) / 2 ^ (64 - (63 - k))) = ((hi * 2 ^ (63 - k) + lo / 2 ^ (64 - (63 - k)) : Nat) : Int) := by
    have w1 : IntKind.u64.wrap ((hi : Int) * 2 ^ (63 - k)) = ((hi * 2 ^ (63 - k) : Nat) : Int) := by
      rw [IntKind.wrap_u64, show ((hi : Int) * 2 ^ (63 - k)) = ((hi * 2 ^ (63 - k) : Nat) : Int) by simp]; omega
    have w2 : (lo : Int) / 2 ^ (64 - (63 - k)) = ((lo / 2 ^ (64 - (63 - k)) : Nat) : Int) := by simp
    rw [w1, w2, bits_or_u64_nat _ _ (by omega) (by omega)]
    have h := Nat.shiftLeft_add_eq_or_of_lt ht hi
    rw [Nat.shiftLeft_eq] at h
    rw [← h]
  refine ⟨63 - k, by omega, by rw [hb]; omega, ((y * 2 ^ (63 - k) : Nat) : Int), ((hi * 2 ^ (63 - k) + lo / 2 ^ (64 - (63 - k)) : Nat) : Int), ((lo * 2 ^ (63 - k) % 18446744073709551616 : Nat) : Int), ?_, hor, ?_, by omega, by omega, by omega, by omega, by omega, by omega, ?_⟩
  · rw [IntKind.wrap_u64, show ((y : Int) * 2 ^ (63 - k)) = ((y * 2 ^ (63 - k) : Nat) : Int) by simp]; omega
  · rw [IntKind.wrap_u64, show ((lo : Int) * 2 ^ (63 - k)) = ((lo * 2 ^ (63 - k) : Nat) : Int) by simp]; omega
  · have e : (hi * 2 ^ (63 - k) + lo / 2 ^ (64 - (63 - k))) * 18446744073709551616 + lo * 2 ^ (63 - k) % 18446744073709551616 = (hi * 18446744073709551616 + lo) * 2 ^ (63 - k) := by
      rw [← hq]
      have := Nat.div_add_mod (lo * 2 ^ (63 - k)) 18446744073709551616
      have h3 : (hi * 18446744073709551616 + lo) * 2 ^ (63 - k) = hi * 2 ^ (63 - k) * 18446744073709551616 + lo * 2 ^ (63 - k) := by
        rw [Nat.add_mul, Nat.mul_right_comm]
      omega
    have h4 : ((hi * 2 ^ (63 - k) + lo / 2 ^ (64 - (63 - k))) * 18446744073709551616 + lo * 2 ^ (63 - k) % 18446744073709551616) / (y * 2 ^ (63 - k)) = (hi * 18446744073709551616 + lo) / y := by
      rw [e]; exact Nat.mul_div_mul_right _ _ hp
    have h5 := congrArg (fun n : Nat => (n : Int)) h4
    simp only [Int.natCast_ediv, Int.natCast_add, Int.natCast_mul] at h5 ⊢
    exact h5
theorem low32' (x : Int) (h0 : 0 ≤ x) (h1 : x ≤ 18446744073709551615) : bits .and .u64 x 4294967295 = x % 4294967296 := and_low32 x h0 (by omega)
theorem guess_start {Y V1 V0 U32 U1 : Int} (d : Digit Y V1 V0 U32 U1) : 0 ≤ U32 / V1 ∧ 0 ≤ U32 / V1 * V1 ∧ U32 / V1 * V1 ≤ U32 ∧ U32 < U32 / V1 * V1 + V1 := by
  have hv : 0 < V1 := by have := d.v1; omega
  have h0 : 0 ≤ U32 / V1 := Int.ediv_nonneg d.u (Int.le_of_lt hv)
  have h1 := Int.ediv_mul_le U32 (Int.ne_of_gt hv)
  have h2 := Int.lt_ediv_add_one_mul_self U32 hv
  rw [Int.add_mul, Int.one_mul] at h2
  exact ⟨h0, Int.mul_nonneg h0 (Int.le_of_lt hv), h1, h2⟩
/-- The quotient, or nothing where it is above 2^62. -/
def mdN (q : Int) : Int := if 4611686018427387904 < q then 0 else q
def mdE (q : Int) : Int := if 4611686018427387904 < q then 5 else 0
theorem ref_ceil_ok (a b : Int) (w : World) (a0 : 0 ≤ a) (a1 : a ≤ 9223372036854775807) (b0 : 1 ≤ b) (b1 : b ≤ 9223372036854775807) :
    Calls Try.prog 21 #[.int .i64 a, .int .i64 b] w fun e w' => e = .returned (.tuple #[.int .i64 (cdivN a b), .int .i64 0]) ∧ w = w' := by
  have q0 : 0 ≤ a / b := Int.ediv_nonneg a0 (by omega)
  have q1 : a / b ≤ a := Int.ediv_le_self b a0
  have r0 : 0 ≤ a % b := Int.emod_nonneg a (by omega)
  have qr := Int.mul_ediv_add_emod a b
  have hb : ¬ b = 0 := by omega
  by_cases h : 0 < a % b
  · have q2 : a / b ≠ 9223372036854775807 := by
      intro h2
      have h3 : a = 9223372036854775807 := by omega
      have h4 : b = 1 := by
        rw [h2] at qr
        omega
      rw [h4] at h
      omega
    have q3 : a / b < 9223372036854775807 := by omega
    have e : cdivN a b = a / b + 1 := by unfold cdivN; rw [if_pos h]
    rw [e]
    clear e q2 qr
    go_enter Try.func21, Try.ntmps21
    go_wp2
    go_ret2
    exact ⟨rfl, rfl⟩
  · have e : cdivN a b = a / b := by unfold cdivN; rw [if_neg h]
    rw [e]
    clear e qr
    go_enter Try.func21, Try.ntmps21
    go_wp2
    go_ret2
    exact ⟨rfl, rfl⟩
theorem ref_ceil_err (a b : Int) (w : World) (h : a < 0 ∨ b < 1) :
    Calls Try.prog 21 #[.int .i64 a, .int .i64 b] w fun e w' => e = .returned (.tuple #[.int .i64 0, .int .i64 5]) ∧ w = w' := by
  by_cases h1 : a < 0
  · clear h
    go_enter Try.func21, Try.ntmps21
    go_wp2
    go_ret2
    exact ⟨rfl, rfl⟩
  · have h2 : b < 1 := by omega
    clear h
    go_enter Try.func21, Try.ntmps21
    go_wp2
    go_ret2
    exact ⟨rfl, rfl⟩
/-- One bit of a long division. -/
theorem bit_step (N c j : Nat) (hc : 1 ≤ c) : N / 2 ^ j = N / 2 ^ (j + 1) * 2 + (if N.testBit j then 1 else 0) := by
  rw [Nat.testBit_eq_decide_div_mod_eq, Nat.pow_succ, ← Nat.div_div_eq_div_mul]
  generalize N / 2 ^ j = M
  by_cases h : M % 2 = 1
  · simp [h]; omega
  · simp [h]; omega
theorem long_step (M M' c b : Nat) (hc : 1 ≤ c) (h : M' = M * 2 + b) (hb : b ≤ 1) :
    (c ≤ M % c * 2 + b → M' % c = M % c * 2 + b - c ∧ M' / c = M / c * 2 + 1) ∧ (M % c * 2 + b < c → M' % c = M % c * 2 + b ∧ M' / c = M / c * 2) := by
  have e := Nat.div_add_mod M c
  have hr := Nat.mod_lt M (show 0 < c by omega)
  generalize M % c = r at *
  generalize M / c = q at *
  have e2 : M' = c * (q * 2) + (r * 2 + b) := by
    have h2 : c * (q * 2) = c * q * 2 := by rw [Nat.mul_assoc]
    omega
  refine ⟨fun h1 => ?_, fun h1 => ?_⟩
  · have e3 : M' = (r * 2 + b - c) + c * (q * 2 + 1) := by rw [Nat.mul_add, Nat.mul_one]; omega
    rw [e3, Nat.add_mul_mod_self_left, Nat.add_mul_div_left _ _ (by omega), Nat.mod_eq_of_lt (by omega), Nat.div_eq_of_lt (by omega)]
    exact ⟨rfl, by omega⟩
  · have e3 : M' = (r * 2 + b) + c * (q * 2) := by omega
    rw [e3, Nat.add_mul_mod_self_left, Nat.add_mul_div_left _ _ (by omega), Nat.mod_eq_of_lt (by omega), Nat.div_eq_of_lt (by omega)]
    exact ⟨rfl, by omega⟩
theorem or_bit (x b : Nat) (hx : x < 9223372036854775808) (hb : b ≤ 1) : bits .or .u64 ((x : Int) * 2) (b : Int) = (x : Int) * 2 + b := by
  have e : (x : Int) * 2 = ((x * 2 : Nat) : Int) := by omega
  rw [e, bits_or_u64_nat (x * 2) b (by omega) (by omega)]
  have h := Nat.shiftLeft_add_eq_or_of_lt (i := 1) (show b < 2 ^ 1 by omega) x
  rw [Nat.shiftLeft_eq] at h
  have h' : x * 2 ||| b = x * 2 + b := h.symm
  rw [h']
  omega
/-- The bits of a number of two words. -/
theorem two_words_low (hi lo j : Nat) (hl : lo < 18446744073709551616) (hj : j < 64) : (hi * 18446744073709551616 + lo).testBit j = lo.testBit (j % 64) := by
  have h := Nat.testBit_two_pow_mul_add hi (i := 64) (b := lo) (by omega) j
  rw [if_pos hj] at h
  rw [Nat.mod_eq_of_lt hj, ← h, Nat.mul_comm]
theorem two_words_high (hi lo j : Nat) (hl : lo < 18446744073709551616) (hj : 64 ≤ j) (hj2 : j < 128) : (hi * 18446744073709551616 + lo).testBit j = hi.testBit (j % 64) := by
  have h := Nat.testBit_two_pow_mul_add hi (i := 64) (b := lo) (by omega) j
  rw [if_neg (by omega)] at h
  have e : j % 64 = j - 64 := by omega
  rw [e, ← h, Nat.mul_comm]
/-- What a round leaves: rest and quotient of the bits from j on. -/
def Rest (N c j : Nat) (r q : Int) : Prop := r = ((N / 2 ^ j % c : Nat) : Int) ∧ q = ((N / 2 ^ j / c : Nat) : Int)
theorem rest_big {N c j : Nat} {r q : Int} (h : Rest N c j r q) (hq : 4611686018427387904 < q) : mdN ((N : Int) / c) = 0 ∧ mdE ((N : Int) / c) = 5 := by
  have h1 : N / 2 ^ j / c ≤ N / c := Nat.div_le_div_right (Nat.div_le_self _ _)
  have h2 : (N : Int) / c = ((N / c : Nat) : Int) := by simp
  have h3 : 4611686018427387904 < (N : Int) / c := by rw [h2]; have := h.2; omega
  unfold mdN mdE
  rw [if_pos h3, if_pos h3]
  exact ⟨rfl, rfl⟩
theorem rest_done {N c : Nat} {r q : Int} (h : Rest N c 0 r q) : q = (N : Int) / c := by
  have := h.2
  simpa using this
theorem rest_hit {N c j : Nat} {r q : Int} {b : Nat} (hc : 1 ≤ c) (h : Rest N c (j + 1) r q) (hb : (if N.testBit j then 1 else 0) = b) (ht : (c : Int) ≤ r * 2 + b) : Rest N c j (r * 2 + b - c) (q * 2 + 1) := by
  have hs := (long_step (N / 2 ^ (j + 1)) (N / 2 ^ j) c b hc (by rw [← hb]; exact bit_step N c j hc) (by rw [← hb]; split <;> omega)).1 (by have := h.1; omega)
  refine ⟨?_, ?_⟩
  · rw [hs.1]; have := h.1; omega
  · rw [hs.2]; have := h.2; omega
theorem rest_miss {N c j : Nat} {r q : Int} {b : Nat} (hc : 1 ≤ c) (h : Rest N c (j + 1) r q) (hb : (if N.testBit j then 1 else 0) = b) (ht : r * 2 + b < c) : Rest N c j (r * 2 + b) (q * 2) := by
  have hs := (long_step (N / 2 ^ (j + 1)) (N / 2 ^ j) c b hc (by rw [← hb]; exact bit_step N c j hc) (by rw [← hb]; split <;> omega)).2 (by have := h.1; omega)
  refine ⟨?_, ?_⟩
  · rw [hs.1]; have := h.1; omega
  · rw [hs.2]; have := h.2; omega
end Go.Proofs.Ytbppdbfjhdhehaa
