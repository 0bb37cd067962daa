/- DivNums, Div, DivW, MulDiv, RefDiv: in one text. -/
import Derived.Test.YtgnopnifdiipkaaDoorSat
import Derived.Test.YtgnopnifdiipkaaDoorRefSat
import Derived.Test.YtgnopnifdiipkaaDoorWords
import Derived.WalkKit
import Derived.Lib.Hide
import Derived.RegionTactic
import Derived.ChangeAlike
import Derived.Deep.QuietTactic
import Derived.BigQuiet
import Derived.Deep.CutBlock
import Derived.Deep.CutRange
import Derived.Deep.LoopGhost
namespace Go.Proofs.YtgnopnifdiipkaaDoor
open Go.RowKit
set_option linter.unusedVariables false
set_option linter.unusedSimpArgs false
/-- Y is a normalized divisor of the halves V1, V0; U32 * 2^32 + U1 is to be divided. -/
structure Digit (Y V1 V0 U32 U1 : Int) : Prop where
  y : Y = V1 * 4294967296 + V0
  v1 : 2147483648 ≤ V1
  v1' : V1 < 4294967296
  v0 : 0 ≤ V0
  v0' : V0 < 4294967296
  u : 0 ≤ U32
  u' : U32 < Y
  u1 : 0 ≤ U1
  u1' : U1 < 4294967296
/-- The true digit. -/
def dig (Y U32 U1 : Int) : Int := (U32 * 4294967296 + U1) / Y
/-- A guess q that is not too low, and what it leaves. -/
structure Guess (Y V1 U32 U1 q r : Int) : Prop where
  e : q * V1 + r = U32
  hi : dig Y U32 U1 ≤ q
  r0 : 0 ≤ r
variable {Y V1 V0 U32 U1 q r : Int}
theorem Digit.y0 (d : Digit Y V1 V0 U32 U1) : 0 < Y := by have := d.y; have := d.v1; have := d.v0; omega
theorem Digit.yb (d : Digit Y V1 V0 U32 U1) : 9223372036854775808 ≤ Y ∧ Y < 18446744073709551616 := by
  have := d.y; have := d.v1; have := d.v0; have := d.v1'; have := d.v0'; omega
theorem Digit.dig0 (d : Digit Y V1 V0 U32 U1) : 0 ≤ dig Y U32 U1 := Int.ediv_nonneg (by have := d.u; have := d.u1; omega) (Int.le_of_lt d.y0)
theorem Digit.dig_lt (d : Digit Y V1 V0 U32 U1) : dig Y U32 U1 < 4294967296 := by
  apply Int.ediv_lt_of_lt_mul d.y0
  have := d.u'; have := d.u1'; omega
theorem Digit.dig_mul (d : Digit Y V1 V0 U32 U1) : dig Y U32 U1 * Y ≤ U32 * 4294967296 + U1 := Int.ediv_mul_le _ (Int.ne_of_gt d.y0)
theorem mul_y (h : Y = V1 * 4294967296 + V0) (q : Int) : q * Y = q * V1 * 4294967296 + q * V0 := by rw [h, Int.mul_add, Int.mul_assoc]
theorem Digit.le_of (d : Digit Y V1 V0 U32 U1) (h : q * Y ≤ U32 * 4294967296 + U1) : q ≤ dig Y U32 U1 := (Int.le_ediv_iff_mul_le d.y0).2 h
theorem Digit.lt_of (d : Digit Y V1 V0 U32 U1) (h : U32 * 4294967296 + U1 < q * Y) : dig Y U32 U1 < q := Int.ediv_lt_of_lt_mul d.y0 h
/-- The first guess. -/
theorem Digit.start (d : Digit Y V1 V0 U32 U1) : Guess Y V1 U32 U1 (U32 / V1) (U32 - U32 / V1 * V1) := by
  have hv : 0 < V1 := by have := d.v1; omega
  refine ⟨by omega, ?_, ?_⟩
  · apply (Int.le_ediv_iff_mul_le hv).2
    have h := d.dig_mul
    rw [mul_y d.y] at h
    have h0 : 0 ≤ dig Y U32 U1 * V0 := Int.mul_nonneg d.dig0 d.v0
    have := d.u1'
    omega
  · have := Int.ediv_mul_le U32 (Int.ne_of_gt hv)
    omega
/-- The guess is too high. -/
theorem Guess.step (d : Digit Y V1 V0 U32 U1) (g : Guess Y V1 U32 U1 q r) (h : 4294967296 ≤ q ∨ 4294967296 * r + U1 < q * V0) : Guess Y V1 U32 U1 (q - 1) (r + V1) := by
  have hv := d.v1
  have hr := g.r0
  refine ⟨?_, ?_, by omega⟩
  · have := g.e
    rw [Int.sub_mul, Int.one_mul]; omega
  · rcases h with h | h
    · have := d.dig_lt; omega
    · have h2 : dig Y U32 U1 < q := by
        apply d.lt_of
        rw [mul_y d.y, ← g.e, Int.add_mul]
        omega
      omega
/-- The guess passes the test. -/
theorem Guess.done (d : Digit Y V1 V0 U32 U1) (g : Guess Y V1 U32 U1 q r) (h : q * V0 ≤ 4294967296 * r + U1) : q = dig Y U32 U1 := by
  have h2 : q ≤ dig Y U32 U1 := by
    apply d.le_of
    rw [mul_y d.y, ← g.e, Int.add_mul]
    omega
  have := g.hi
  omega
/-- What is left is so much that the guess cannot be too high. -/
theorem Guess.far (d : Digit Y V1 V0 U32 U1) (g : Guess Y V1 U32 U1 q r) (h : 4294967296 ≤ r) : q = dig Y U32 U1 := by
  have hq0 : 0 ≤ q := Int.le_trans d.dig0 g.hi
  have hlt : q < 4294967296 := by
    have h1 : q * V1 < 4294967296 * V1 := by
      have := g.e; have := d.u'; have := d.y; have := d.v0'; omega
    exact Int.lt_of_mul_lt_mul_right h1 (by have := d.v1; omega)
  apply g.done d
  have h2 : q * V0 ≤ 4294967295 * 4294967295 := Int.mul_le_mul (by omega) (by have := d.v0'; omega) d.v0 (by omega)
  have := d.u1
  omega
theorem Guess.bound (d : Digit Y V1 V0 U32 U1) (g : Guess Y V1 U32 U1 q r) : 0 ≤ q ∧ q ≤ U32 := by
  have hq0 : 0 ≤ q := Int.le_trans d.dig0 g.hi
  refine ⟨hq0, ?_⟩
  have h1 : q * 1 ≤ q * V1 := Int.mul_le_mul_of_nonneg_left (by have := d.v1; omega) hq0
  have := g.e; have := g.r0; omega
/-- What the digit leaves. -/
theorem Digit.left (d : Digit Y V1 V0 U32 U1) : U32 * 4294967296 + U1 - dig Y U32 U1 * Y = (U32 * 4294967296 + U1) % Y ∧ 0 ≤ (U32 * 4294967296 + U1) % Y ∧ (U32 * 4294967296 + U1) % Y < Y := by
  refine ⟨?_, Int.emod_nonneg _ (Int.ne_of_gt d.y0), Int.emod_lt_of_pos _ d.y0⟩
  rw [Int.emod_def, Int.mul_comm Y]; rfl
/-- The two digits are the quotient. -/
theorem two_digits (y0 : 0 < Y) (U32 U1 U0 : Int) :
    ((U32 * 4294967296 + U1) * 4294967296 + U0) / Y = (U32 * 4294967296 + U1) / Y * 4294967296 + ((U32 * 4294967296 + U1) % Y * 4294967296 + U0) / Y := by
  have e := Int.emod_add_mul_ediv (U32 * 4294967296 + U1) Y
  generalize hU : U32 * 4294967296 + U1 = U at *
  have h : U * 4294967296 + U0 = (U % Y * 4294967296 + U0) + Y * (U / Y * 4294967296) := by
    conv => lhs; rw [← e]
    rw [Int.add_mul, Int.mul_assoc]; omega
  rw [h, Int.add_mul_ediv_left _ _ (Int.ne_of_gt y0)]
  omega
/-- a / b rounded up. -/
def cdivN (a b : Int) : Int := if 0 < a % b then a / b + 1 else a / b
/-- Div64 of one word. -/
theorem div64_low (lo y : Int) (w : World) (a0 : 0 ≤ lo) (a1 : lo ≤ 18446744073709551615) (b0 : 1 ≤ y) (b1 : y ≤ 18446744073709551615) :
    Calls Tryd.prog 64 #[.int .u64 0, .int .u64 lo, .int .u64 y] w fun e w' => e = .returned (.tuple #[.int .u64 (lo / y), .int .u64 (lo % y)]) ∧ ∃ n, w' = w.drewN n := by
  have q0 : 0 ≤ lo / y := Int.ediv_nonneg a0 (by omega)
  have q1 : lo / y ≤ lo := Int.ediv_le_self y a0
  have r0 : 0 ≤ lo % y := Int.emod_nonneg lo (by omega)
  have r1 : lo % y < y := Int.emod_lt_of_pos lo (by omega)
  have hy : ¬ y = 0 := by omega
  go_enter Tryd.func64, Tryd.ntmps64
  go_wp2
  go_quiet (fail)
  go_wp2
  go_ret2
  exact ⟨rfl, _, rfl⟩
/-- The product fits into one word. -/
theorem mul64_low (x y p : Int) (hp : x * y = p) (a0 : 0 ≤ x) (a1 : x ≤ 18446744073709551615) (b0 : 0 ≤ y) (b1 : y ≤ 18446744073709551615) (p0 : 0 ≤ p) (p1 : p ≤ 18446744073709551615) (w : World) :
    Calls Tryd.prog 63 #[.int .u64 x, .int .u64 y] w fun e w' => e = .returned (.tuple #[.int .u64 0, .int .u64 p]) ∧ w = w' := by
  obtain ⟨hi, lo, h0, h1, l0, l1, e, c⟩ := mul64_int x y a0 a1 b0 b1
  have e1 : hi = 0 := by omega
  have e2 : lo = p := by omega
  subst e1 e2
  exact c w
/-- MulDiv where the product is a word: the exact quotient. -/
theorem muldiv_low (a b c p q : Int) (w : World) (hp : a * b = p) (hq : p / c = q) (a0 : 0 ≤ a) (a1 : a ≤ 9223372036854775807) (b0 : 0 ≤ b) (b1 : b ≤ 9223372036854775807) (c0 : 1 ≤ c) (c1 : c ≤ 9223372036854775807) (p0 : 0 ≤ p) (p1 : p ≤ 18446744073709551615) (q1 : q ≤ 4611686018427387904) :
    Calls Tryd.prog 48 #[.int .i64 a, .int .i64 b, .int .i64 c] w fun e w' => e = .returned (.tuple #[.int .i64 q, .int .i64 0]) ∧ ∃ n, w' = w.drewN n := by
  have q0 : 0 ≤ q := hq ▸ Int.ediv_nonneg p0 (by omega)
  have hm := fun w => mul64_low a b p hp a0 (by omega) b0 (by omega) p0 p1 w
  have hd := fun w => hq ▸ div64_low p c w p0 p1 c0 (by omega)
  generalize p % c = r at hd
  clear hp hq
  have h1 : ¬ a < 0 := by omega
  have h2 : ¬ b < 0 := by omega
  have h3 : ¬ c < 1 := by omega
  go_enter Tryd.func48, Tryd.ntmps48
  go_wp2_with (first | (go_at_call 63; refine (hm _).mono ?_; rintro e w' ⟨rfl, rfl⟩) | (go_at_call 64; refine (hd _).mono ?_; rintro e w' ⟨rfl, n, rfl⟩))
  go_ret2
  exact ⟨rfl, _, rfl⟩
theorem bitLen_log (x : Nat) (h0 : 0 < x) (h1 : x < 18446744073709551616) : ∃ k, k < 64 ∧ Lib.bitLen x = k + 1 ∧ 2 ^ k ≤ x ∧ x < 2 ^ (k + 1) := by
  have hle : 2 ^ x.log2 ≤ x := Nat.log2_self_le (by omega)
  have hlt : x < 2 ^ (x.log2 + 1) := Nat.lt_log2_self
  have hk : x.log2 < 64 := (Nat.log2_lt (by omega)).2 h1
  refine ⟨x.log2, hk, ?_, hle, hlt⟩
  have h2 : x / 2 ^ x.log2 = 1 := by
    have hp : 0 < 2 ^ x.log2 := Nat.two_pow_pos _
    rw [Nat.pow_succ] at hlt
    exact Nat.div_eq_of_lt_le (by omega) (by omega)
  rw [Lib.bitLen_shift _ x hle h1, h2, show Lib.bitLen 1 = 1 by decide]
/-- The divisor normalized, the dividend shifted with it. -/
theorem div_setup (hi lo y : Nat) (h0 : 0 < hi) (h1 : hi < y) (hy : y < 18446744073709551616) (hl : lo < 18446744073709551616) :
    ∃ s : Nat, s ≤ 63 ∧ (64 : Int) - (Lib.bitLen y : Int) = (s : Int) ∧ ∃ Y U32 U10 : Int, IntKind.u64.wrap ((y : Int) * 2 ^ s) = Y ∧ bits .or .u64 (IntKind.u64.wrap ((hi : Int) * 2 ^ s)) ((lo : Int) / 2 ^ (64 - s)) = U32 ∧
      IntKind.u64.wrap ((lo : Int) * 2 ^ s) = U10 ∧ 0 ≤ U10 ∧ U10 < 18446744073709551616 ∧ 9223372036854775808 ≤ Y ∧ Y < 18446744073709551616 ∧ 0 ≤ U32 ∧ U32 < Y ∧
      (U32 * 18446744073709551616 + U10) / Y = ((hi : Int) * 18446744073709551616 + lo) / y := by
  obtain ⟨k, hk, hb, hle, hlt⟩ := bitLen_log y (by omega) hy
  have hp : 0 < 2 ^ (63 - k) := Nat.two_pow_pos _
  have e63 : 2 ^ k * 2 ^ (63 - k) = 9223372036854775808 := by rw [← Nat.pow_add, show k + (63 - k) = 63 by omega]
  have e64 : 2 ^ (k + 1) * 2 ^ (63 - k) = 18446744073709551616 := by rw [← Nat.pow_add, show k + 1 + (63 - k) = 64 by omega]
  have e64' : 2 ^ (64 - (63 - k)) * 2 ^ (63 - k) = 18446744073709551616 := by rw [← Nat.pow_add, show 64 - (63 - k) + (63 - k) = 64 by omega]
  have hY1 : 9223372036854775808 ≤ y * 2 ^ (63 - k) := by rw [← e63]; exact Nat.mul_le_mul_right _ hle
  have hY2 : y * 2 ^ (63 - k) < 18446744073709551616 := by rw [← e64]; exact Nat.mul_lt_mul_of_pos_right hlt hp
  have hh : (hi + 1) * 2 ^ (63 - k) ≤ y * 2 ^ (63 - k) := Nat.mul_le_mul_right _ (by omega)
  rw [Nat.add_mul, Nat.one_mul] at hh
  have ht : lo / 2 ^ (64 - (63 - k)) < 2 ^ (63 - k) := by
    apply Nat.div_lt_of_lt_mul
    rw [e64']; exact hl
  have hq : lo * 2 ^ (63 - k) / 18446744073709551616 = lo / 2 ^ (64 - (63 - k)) := by
    rw [← e64']; exact Nat.mul_div_mul_right _ _ hp
  have hor : bits .or .u64 (IntKind.u64.wrap ((hi : Int) * 2 ^ (63 - k))) ((lo : Int) / 2 ^ (64 - (63 - k))) = ((hi * 2 ^ (63 - k) + lo / 2 ^ (64 - (63 - k)) : Nat) : Int) := by
    have w1 : IntKind.u64.wrap ((hi : Int) * 2 ^ (63 - k)) = ((hi * 2 ^ (63 - k) : Nat) : Int) := by
      rw [IntKind.wrap_u64, show ((hi : Int) * 2 ^ (63 - k)) = ((hi * 2 ^ (63 - k) : Nat) : Int) by simp]; omega
    have w2 : (lo : Int) / 2 ^ (64 - (63 - k)) = ((lo / 2 ^ (64 - (63 - k)) : Nat) : Int) := by simp
    rw [w1, w2, bits_or_u64_nat _ _ (by omega) (by omega)]
    have h := Nat.shiftLeft_add_eq_or_of_lt ht hi
    rw [Nat.shiftLeft_eq] at h
    rw [← h]
  refine ⟨63 - k, by omega, by rw [hb]; omega, ((y * 2 ^ (63 - k) : Nat) : Int), ((hi * 2 ^ (63 - k) + lo / 2 ^ (64 - (63 - k)) : Nat) : Int), ((lo * 2 ^ (63 - k) % 18446744073709551616 : Nat) : Int), ?_, hor, ?_, by omega, by omega, by omega, by omega, by omega, by omega, ?_⟩
  · rw [IntKind.wrap_u64, show ((y : Int) * 2 ^ (63 - k)) = ((y * 2 ^ (63 - k) : Nat) : Int) by simp]; omega
  · rw [IntKind.wrap_u64, show ((lo : Int) * 2 ^ (63 - k)) = ((lo * 2 ^ (63 - k) : Nat) : Int) by simp]; omega
  · have e : (hi * 2 ^ (63 - k) + lo / 2 ^ (64 - (63 - k))) * 18446744073709551616 + lo * 2 ^ (63 - k) % 18446744073709551616 = (hi * 18446744073709551616 + lo) * 2 ^ (63 - k) := by
      rw [← hq]
      have := Nat.div_add_mod (lo * 2 ^ (63 - k)) 18446744073709551616
      have h3 : (hi * 18446744073709551616 + lo) * 2 ^ (63 - k) = hi * 2 ^ (63 - k) * 18446744073709551616 + lo * 2 ^ (63 - k) := by
        rw [Nat.add_mul, Nat.mul_right_comm]
      omega
    have h4 : ((hi * 2 ^ (63 - k) + lo / 2 ^ (64 - (63 - k))) * 18446744073709551616 + lo * 2 ^ (63 - k) % 18446744073709551616) / (y * 2 ^ (63 - k)) = (hi * 18446744073709551616 + lo) / y := by
      rw [e]; exact Nat.mul_div_mul_right _ _ hp
    have h5 := congrArg (fun n : Nat => (n : Int)) h4
    simp only [Int.natCast_ediv, Int.natCast_add, Int.natCast_mul] at h5 ⊢
    exact h5
set_option maxHeartbeats 4000000 in
set_option maxRecDepth 100000 in
theorem div64_walk (hi lo y : Int) (s : Nat) (Y U32 U10 V1 V0 U1 U0 P Q1 R1 P2 Q2 : Int) (w : World) (a0 : 0 < hi) (a1 : hi < y) (a2 : y ≤ 18446744073709551615) (b0 : 0 ≤ lo) (b1 : lo ≤ 18446744073709551615) (hs : s ≤ 63)
    (hlz : ∀ w, Calls Tryd.prog 61 #[.int .u64 y] w fun e w' => e = .returned (.int .i64 (s : Int)) ∧ w = w')
    (eY : IntKind.u64.wrap (y * 2 ^ s) = Y) (eU : bits .or .u64 (IntKind.u64.wrap (hi * 2 ^ s)) (lo / 2 ^ (64 - s)) = U32) (eL : IntKind.u64.wrap (lo * 2 ^ s) = U10)
    (eV1 : Y / 4294967296 = V1) (eV0 : bits .and .u64 Y 4294967295 = V0) (eU1 : U10 / 4294967296 = U1) (eU0 : bits .and .u64 U10 4294967295 = U0)
    (d1 : Hid (Digit Y V1 V0 U32 U1)) (v1 : 2147483648 ≤ V1) (v1' : V1 < 4294967296) (v0 : 0 ≤ V0) (v0' : V0 < 4294967296) (u : 0 ≤ U32) (u' : U32 ≤ 18446744073709551615) (u1 : 0 ≤ U1) (u1' : U1 < 4294967296) (u0 : 0 ≤ U0) (u0' : U0 < 4294967296)
    (q00 : 0 ≤ U32 / V1) (eP : U32 / V1 * V1 = P) (p0 : 0 ≤ P) (p1 : P ≤ U32) (p2 : U32 < P + V1) (hQ1 : Hid (dig Y U32 U1 = Q1)) (g1 : Hid (Guess Y V1 U32 U1 (U32 / V1) (U32 - P)))
    (eR1 : IntKind.u64.wrap (IntKind.u64.wrap (IntKind.u64.wrap (U32 * 4294967296) + U1) - IntKind.u64.wrap (Q1 * Y)) = R1) (r0 : 0 ≤ R1) (r1 : R1 ≤ 18446744073709551615) (d2 : Hid (Digit Y V1 V0 R1 U0))
    (q20 : 0 ≤ R1 / V1) (eP2 : R1 / V1 * V1 = P2) (p20 : 0 ≤ P2) (p21 : P2 ≤ R1) (p22 : R1 < P2 + V1) (hQ2 : Hid (dig Y R1 U0 = Q2)) (g2 : Hid (Guess Y V1 R1 U0 (R1 / V1) (R1 - P2)))
    (q1 : 0 ≤ Q1) (q1' : Q1 < 4294967296) (q2 : 0 ≤ Q2) (q2' : Q2 < 4294967296) :
    Calls Tryd.prog 64 #[.int .u64 hi, .int .u64 lo, .int .u64 y] w fun e w' => ∃ r, e = .returned (.tuple #[.int .u64 (Q1 * 4294967296 + Q2), .int .u64 r]) ∧ w = w' := by
  have hyh : decide (y ≤ hi) = false := by simp; omega
  go_enter Tryd.func64, Tryd.ntmps64
  go_upto_block 0 with (go_at_call 61; refine (hlz _).mono ?_; rintro e w' ⟨rfl, rfl⟩)
  go_cut [15] from 67 to 85 (fun q wx => q = .int .u64 Q1 ∧ wx = w)
  case first =>
    clear eY eU eL eV1 eV0 eU1 eU0 eP hlz eR1 eP2
    go_wp2_with fail
    go_loop [15, 16] (fun a b => ∃ q r : Int, a = .int .u64 q ∧ b = .int .u64 r ∧ Hid (Guess Y V1 U32 U1 q r) ∧ 0 ≤ q ∧ q ≤ U32 ∧ 0 ≤ r ∧ r < 4294967296) (fun a _ => (intOf a).toNat)
    case atStart => exact ⟨U32 / V1, U32 - P, rfl, rfl, g1, q00, by have := (Guess.bound d1.out g1.out).2; omega, by omega, by omega⟩
    case round =>
      obtain ⟨q, r, rfl, rfl, g, hq0, hq1, hr0, hr1⟩ := hrel
      clear g1
      by_cases hqb : 4294967296 ≤ q
      · have hn := Lib.hid (Guess.step d1.out g.out (.inl hqb))
        have hb1 := (Guess.bound d1.out hn.out).1
        have hb2 := (Guess.bound d1.out hn.out).2
        by_cases hfar : 4294967296 ≤ r + V1
        · have he := Lib.hid (Guess.far d1.out hn.out hfar)
          go_wp2_with fail
          go_meet
          case rel => exact ⟨congrArg (Value.int .u64) (he.out.trans hQ1.out), rfl⟩
        · go_wp2_with fail
          go_round
          case rel => exact ⟨q - 1, r + V1, rfl, rfl, hn, hb1, hb2, by omega, by omega⟩
          case measure => simp [intOf]; omega
      · obtain ⟨T, eT⟩ : ∃ T, q * V0 = T := ⟨_, rfl⟩
        have hT0 : 0 ≤ T := eT ▸ Int.mul_nonneg hq0 v0
        have hT1 : T ≤ 4294967295 * 4294967295 := eT ▸ Int.mul_le_mul (by omega) (by omega) v0 (by omega)
        by_cases htest : 4294967296 * r + U1 < T
        · have hn := Lib.hid (Guess.step d1.out g.out (.inr (by rw [eT]; exact htest)))
          have hb1 := (Guess.bound d1.out hn.out).1
          have hb2 := (Guess.bound d1.out hn.out).2
          by_cases hfar : 4294967296 ≤ r + V1
          · have he := Lib.hid (Guess.far d1.out hn.out hfar)
            go_wp2_with fail
            go_meet
            case rel => exact ⟨congrArg (Value.int .u64) (he.out.trans hQ1.out), rfl⟩
          · go_wp2_with fail
            go_round
            case rel => exact ⟨q - 1, r + V1, rfl, rfl, hn, hb1, hb2, by omega, by omega⟩
            case measure => simp [intOf]; omega
        · have he := Lib.hid (Guess.done d1.out g.out (by rw [eT]; omega))
          go_wp2_with fail
          go_meet
          case rel => exact ⟨congrArg (Value.int .u64) (he.out.trans hQ1.out), rfl⟩
  case rest =>
    obtain ⟨rfl, rfl⟩ := hcut
    clear eY eU eL eV1 eV0 eU1 eU0 eP hlz g1 d1
    go_upto_block 2 with fail
    go_cut [18] from 102 to 120 (fun q wx => q = .int .u64 Q2 ∧ wx = wc)
    case first =>
      clear eR1 eP2
      go_wp2_with fail
      go_loop [18, 16] (fun a b => ∃ q r : Int, a = .int .u64 q ∧ b = .int .u64 r ∧ Hid (Guess Y V1 R1 U0 q r) ∧ 0 ≤ q ∧ q ≤ R1 ∧ 0 ≤ r ∧ r < 4294967296) (fun a _ => (intOf a).toNat)
      case atStart => exact ⟨R1 / V1, R1 - P2, rfl, rfl, g2, q20, by have := (Guess.bound d2.out g2.out).2; omega, by omega, by omega⟩
      case round =>
        obtain ⟨q, r, rfl, rfl, g, hq0, hq1, hr0, hr1⟩ := hrel
        clear g2
        by_cases hqb : 4294967296 ≤ q
        · have hn := Lib.hid (Guess.step d2.out g.out (.inl hqb))
          have hb1 := (Guess.bound d2.out hn.out).1
          have hb2 := (Guess.bound d2.out hn.out).2
          by_cases hfar : 4294967296 ≤ r + V1
          · have he := Lib.hid (Guess.far d2.out hn.out hfar)
            go_wp2_with fail
            go_meet
            case rel => exact ⟨congrArg (Value.int .u64) (he.out.trans hQ2.out), rfl⟩
          · go_wp2_with fail
            go_round
            case rel => exact ⟨q - 1, r + V1, rfl, rfl, hn, hb1, hb2, by omega, by omega⟩
            case measure => simp [intOf]; omega
        · obtain ⟨T, eT⟩ : ∃ T, q * V0 = T := ⟨_, rfl⟩
          have hT0 : 0 ≤ T := eT ▸ Int.mul_nonneg hq0 v0
          have hT1 : T ≤ 4294967295 * 4294967295 := eT ▸ Int.mul_le_mul (by omega) (by omega) v0 (by omega)
          by_cases htest : 4294967296 * r + U0 < T
          · have hn := Lib.hid (Guess.step d2.out g.out (.inr (by rw [eT]; exact htest)))
            have hb1 := (Guess.bound d2.out hn.out).1
            have hb2 := (Guess.bound d2.out hn.out).2
            by_cases hfar : 4294967296 ≤ r + V1
            · have he := Lib.hid (Guess.far d2.out hn.out hfar)
              go_wp2_with fail
              go_meet
              case rel => exact ⟨congrArg (Value.int .u64) (he.out.trans hQ2.out), rfl⟩
            · go_wp2_with fail
              go_round
              case rel => exact ⟨q - 1, r + V1, rfl, rfl, hn, hb1, hb2, by omega, by omega⟩
              case measure => simp [intOf]; omega
          · have he := Lib.hid (Guess.done d2.out g.out (by rw [eT]; omega))
            go_wp2_with fail
            go_meet
            case rel => exact ⟨congrArg (Value.int .u64) (he.out.trans hQ2.out), rfl⟩
    case rest =>
      obtain ⟨rfl, rfl⟩ := hcut
      go_wp2_with fail
      go_ret2
      exact ⟨_, rfl, rfl⟩
theorem low32' (x : Int) (h0 : 0 ≤ x) (h1 : x ≤ 18446744073709551615) : bits .and .u64 x 4294967295 = x % 4294967296 := and_low32 x h0 (by omega)
theorem guess_start {Y V1 V0 U32 U1 : Int} (d : Digit Y V1 V0 U32 U1) : 0 ≤ U32 / V1 ∧ 0 ≤ U32 / V1 * V1 ∧ U32 / V1 * V1 ≤ U32 ∧ U32 < U32 / V1 * V1 + V1 := by
  have hv : 0 < V1 := by have := d.v1; omega
  have h0 : 0 ≤ U32 / V1 := Int.ediv_nonneg d.u (Int.le_of_lt hv)
  have h1 := Int.ediv_mul_le U32 (Int.ne_of_gt hv)
  have h2 := Int.lt_ediv_add_one_mul_self U32 hv
  rw [Int.add_mul, Int.one_mul] at h2
  exact ⟨h0, Int.mul_nonneg h0 (Int.le_of_lt hv), h1, h2⟩
/-- Div64 of two words. -/
theorem div64_high (hi lo y : Int) (w : World) (a0 : 0 < hi) (a1 : hi < y) (a2 : y ≤ 18446744073709551615) (b0 : 0 ≤ lo) (b1 : lo ≤ 18446744073709551615) :
    Calls Tryd.prog 64 #[.int .u64 hi, .int .u64 lo, .int .u64 y] w fun e w' => ∃ r, e = .returned (.tuple #[.int .u64 ((hi * 18446744073709551616 + lo) / y), .int .u64 r]) ∧ w = w' := by
  have hlz : ∀ w, Calls Tryd.prog 61 #[.int .u64 y] w fun e w' => e = .returned (.int .i64 (64 - (Lib.bitLen y.toNat : Int))) ∧ w = w' := fun w => (Tryd.lz64 y w (by omega) a2).mono fun _ _ h => ⟨h.1, h.2.symm⟩
  obtain ⟨hiN, rfl⟩ := Int.eq_ofNat_of_zero_le (show 0 ≤ hi by omega)
  obtain ⟨loN, rfl⟩ := Int.eq_ofNat_of_zero_le b0
  obtain ⟨yN, rfl⟩ := Int.eq_ofNat_of_zero_le (show 0 ≤ y by omega)
  rw [Int.toNat_natCast] at hlz
  obtain ⟨s, hs, hsl, Y, U32, U10, eY, eU, eL, l0, l1, y0, y1, u0, u1, hq⟩ := div_setup hiN loN yN (by omega) (by omega) (by omega) (by omega)
  rw [hsl] at hlz
  have d1 : Digit Y (Y / 4294967296) (Y % 4294967296) U32 (U10 / 4294967296) := ⟨by omega, by omega, by omega, by omega, by omega, by omega, by omega, by omega, by omega⟩
  obtain ⟨lft, lf0, lf1⟩ := d1.left
  have d2 : Digit Y (Y / 4294967296) (Y % 4294967296) ((U32 * 4294967296 + U10 / 4294967296) % Y) (U10 % 4294967296) := ⟨by omega, by omega, by omega, by omega, by omega, by omega, by omega, by omega, by omega⟩
  have s1 := guess_start d1
  have s2 := guess_start d2
  have hR : IntKind.u64.wrap (IntKind.u64.wrap (IntKind.u64.wrap (U32 * 4294967296) + U10 / 4294967296) - IntKind.u64.wrap (dig Y U32 (U10 / 4294967296) * Y)) = (U32 * 4294967296 + U10 / 4294967296) % Y := by
    simp only [IntKind.wrap_u64]
    generalize dig Y U32 (U10 / 4294967296) * Y = M at *
    generalize (U32 * 4294967296 + U10 / 4294967296) % Y = R at *
    omega
  have hw := fun w => div64_walk (hiN : Int) loN yN s Y U32 U10 (Y / 4294967296) (Y % 4294967296) (U10 / 4294967296) (U10 % 4294967296) _ _ _ _ _ w a0 a1 a2 b0 b1 hs hlz eY eU eL rfl (low32' Y (by omega) (by omega)) rfl (low32' U10 l0 (by omega))
    d1 (by omega) (by omega) (by omega) (by omega) u0 (by omega) (by omega) (by omega) (by omega) (by omega) s1.1 rfl s1.2.1 s1.2.2.1 s1.2.2.2 rfl d1.start hR lf0 (by omega) d2 s2.1 rfl s2.2.1 s2.2.2.1 s2.2.2.2 rfl d2.start d1.dig0 d1.dig_lt d2.dig0 d2.dig_lt
  have e : dig Y U32 (U10 / 4294967296) * 4294967296 + dig Y ((U32 * 4294967296 + U10 / 4294967296) % Y) (U10 % 4294967296) = ((hiN : Int) * 18446744073709551616 + loN) / yN := by
    rw [← hq]
    unfold dig
    rw [← two_digits d1.y0]
    congr 1
    omega
  rw [e] at hw
  exact hw w
/-- Div64 of any two words whose quotient is a word. -/
theorem div64_any (hi lo y : Int) (w : World) (a0 : 0 ≤ hi) (a1 : hi < y) (a2 : y ≤ 18446744073709551615) (b0 : 0 ≤ lo) (b1 : lo ≤ 18446744073709551615) :
    Calls Tryd.prog 64 #[.int .u64 hi, .int .u64 lo, .int .u64 y] w fun e w' => ∃ r, e = .returned (.tuple #[.int .u64 ((hi * 18446744073709551616 + lo) / y), .int .u64 r]) ∧ ∃ n, w' = w.drewN n := by
  by_cases h : hi = 0
  · subst h
    have e : (0 * 18446744073709551616 + lo) = lo := by omega
    rw [e]
    exact (div64_low lo y w b0 b1 (by omega) a2).mono fun _ _ h => ⟨_, h.1, h.2⟩
  · exact (div64_high hi lo y w (by omega) a1 a2 b0 b1).mono fun _ _ ⟨r, h1, h2⟩ => ⟨r, h1, 0, by rw [← h2]; rfl⟩
theorem muldiv_bad (a b c : Int) (w : World) (h : a < 0 ∨ b < 0 ∨ c < 1) :
    Calls Tryd.prog 48 #[.int .i64 a, .int .i64 b, .int .i64 c] w fun e w' => e = .returned (.tuple #[.int .i64 0, .int .i64 5]) ∧ w = w' := by
  by_cases h1 : a < 0
  · clear h
    go_enter Tryd.func48, Tryd.ntmps48
    go_wp2_with fail
    go_ret2
    exact ⟨rfl, rfl⟩
  · by_cases h2 : b < 0
    · clear h
      go_enter Tryd.func48, Tryd.ntmps48
      go_wp2_with fail
      go_ret2
      exact ⟨rfl, rfl⟩
    · have h3 : c < 1 := by omega
      clear h
      go_enter Tryd.func48, Tryd.ntmps48
      go_wp2_with fail
      go_ret2
      exact ⟨rfl, rfl⟩
/-- The quotient, or nothing where it is above 2^62. -/
def mdN (q : Int) : Int := if 4611686018427387904 < q then 0 else q
def mdE (q : Int) : Int := if 4611686018427387904 < q then 5 else 0
set_option maxHeartbeats 1000000 in
theorem muldiv_any (a b c : Int) (w : World) (a0 : 0 ≤ a) (a1 : a ≤ 9223372036854775807) (b0 : 0 ≤ b) (b1 : b ≤ 9223372036854775807) (c0 : 1 ≤ c) (c1 : c ≤ 9223372036854775807) :
    Calls Tryd.prog 48 #[.int .i64 a, .int .i64 b, .int .i64 c] w fun e w' => e = .returned (.tuple #[.int .i64 (mdN (a * b / c)), .int .i64 (mdE (a * b / c))]) ∧ ∃ n, w' = w.drewN n := by
  obtain ⟨hi, lo, p0, p1, q0, q1, e, hm⟩ := mul64_int a b a0 (by omega) b0 (by omega)
  rw [e]
  have hn1 : ¬ a < 0 := by omega
  have hn2 : ¬ b < 0 := by omega
  have hn3 : ¬ c < 1 := by omega
  by_cases hc : c ≤ hi
  · have hbig : 4611686018427387904 < (hi * 18446744073709551616 + lo) / c := by
      have h1 : c * 18446744073709551616 ≤ hi * 18446744073709551616 + lo := by omega
      have h2 : 18446744073709551616 ≤ (hi * 18446744073709551616 + lo) / c := (Int.le_ediv_iff_mul_le (by omega)).2 (by omega)
      omega
    have e1 : mdN ((hi * 18446744073709551616 + lo) / c) = 0 := by unfold mdN; rw [if_pos hbig]
    have e2 : mdE ((hi * 18446744073709551616 + lo) / c) = 5 := by unfold mdE; rw [if_pos hbig]
    rw [e1, e2]
    clear e e1 e2 hbig
    go_enter Tryd.func48, Tryd.ntmps48
    go_wp2_with (go_at_call 63; refine (hm _).mono ?_; rintro e w' ⟨rfl, rfl⟩)
    go_ret2
    exact ⟨rfl, 0, rfl⟩
  · have hd := fun w => div64_any hi lo c w p0 (by omega) (by omega) q0 q1
    have hq0 : 0 ≤ (hi * 18446744073709551616 + lo) / c := Int.ediv_nonneg (by omega) (by omega)
    have hq1 : (hi * 18446744073709551616 + lo) / c < 18446744073709551616 := by
      apply Int.ediv_lt_of_lt_mul (by omega)
      have h1 : (hi + 1) * 18446744073709551616 ≤ c * 18446744073709551616 := by omega
      omega
    generalize (hi * 18446744073709551616 + lo) / c = q at *
    clear e
    by_cases hbig : 4611686018427387904 < q
    · have e1 : mdN q = 0 := by unfold mdN; rw [if_pos hbig]
      have e2 : mdE q = 5 := by unfold mdE; rw [if_pos hbig]
      rw [e1, e2]
      clear e1 e2
      go_enter Tryd.func48, Tryd.ntmps48
      go_wp2_with (first | (go_at_call 63; refine (hm _).mono ?_; rintro e w' ⟨rfl, rfl⟩) | (go_at_call 64; refine (hd _).mono ?_; rintro e w' ⟨r, rfl, n, rfl⟩))
      go_ret2
      exact ⟨rfl, _, rfl⟩
    · have e1 : mdN q = q := by unfold mdN; rw [if_neg hbig]
      have e2 : mdE q = 0 := by unfold mdE; rw [if_neg hbig]
      rw [e1, e2]
      clear e1 e2
      go_enter Tryd.func48, Tryd.ntmps48
      go_wp2_with (first | (go_at_call 63; refine (hm _).mono ?_; rintro e w' ⟨rfl, rfl⟩) | (go_at_call 64; refine (hd _).mono ?_; rintro e w' ⟨r, rfl, n, rfl⟩))
      go_ret2
      exact ⟨rfl, _, rfl⟩
/-- One bit of a long division. -/
theorem bit_step (N c j : Nat) (hc : 1 ≤ c) : N / 2 ^ j = N / 2 ^ (j + 1) * 2 + (if N.testBit j then 1 else 0) := by
  rw [Nat.testBit_eq_decide_div_mod_eq, Nat.pow_succ, ← Nat.div_div_eq_div_mul]
  generalize N / 2 ^ j = M
  by_cases h : M % 2 = 1
  · simp [h]; omega
  · simp [h]; omega
theorem long_step (M M' c b : Nat) (hc : 1 ≤ c) (h : M' = M * 2 + b) (hb : b ≤ 1) :
    (c ≤ M % c * 2 + b → M' % c = M % c * 2 + b - c ∧ M' / c = M / c * 2 + 1) ∧ (M % c * 2 + b < c → M' % c = M % c * 2 + b ∧ M' / c = M / c * 2) := by
  have e := Nat.div_add_mod M c
  have hr := Nat.mod_lt M (show 0 < c by omega)
  generalize M % c = r at *
  generalize M / c = q at *
  have e2 : M' = c * (q * 2) + (r * 2 + b) := by
    have h2 : c * (q * 2) = c * q * 2 := by rw [Nat.mul_assoc]
    omega
  refine ⟨fun h1 => ?_, fun h1 => ?_⟩
  · have e3 : M' = (r * 2 + b - c) + c * (q * 2 + 1) := by rw [Nat.mul_add, Nat.mul_one]; omega
    rw [e3, Nat.add_mul_mod_self_left, Nat.add_mul_div_left _ _ (by omega), Nat.mod_eq_of_lt (by omega), Nat.div_eq_of_lt (by omega)]
    exact ⟨rfl, by omega⟩
  · have e3 : M' = (r * 2 + b) + c * (q * 2) := by omega
    rw [e3, Nat.add_mul_mod_self_left, Nat.add_mul_div_left _ _ (by omega), Nat.mod_eq_of_lt (by omega), Nat.div_eq_of_lt (by omega)]
    exact ⟨rfl, by omega⟩
theorem or_bit (x b : Nat) (hx : x < 9223372036854775808) (hb : b ≤ 1) : bits .or .u64 ((x : Int) * 2) (b : Int) = (x : Int) * 2 + b := by
  have e : (x : Int) * 2 = ((x * 2 : Nat) : Int) := by omega
  rw [e, bits_or_u64_nat (x * 2) b (by omega) (by omega)]
  have h := Nat.shiftLeft_add_eq_or_of_lt (i := 1) (show b < 2 ^ 1 by omega) x
  rw [Nat.shiftLeft_eq] at h
  have h' : x * 2 ||| b = x * 2 + b := h.symm
  rw [h']
  omega
/-- The bits of a number of two words. -/
theorem two_words_low (hi lo j : Nat) (hl : lo < 18446744073709551616) (hj : j < 64) : (hi * 18446744073709551616 + lo).testBit j = lo.testBit (j % 64) := by
  have h := Nat.testBit_two_pow_mul_add hi (i := 64) (b := lo) (by omega) j
  rw [if_pos hj] at h
  rw [Nat.mod_eq_of_lt hj, ← h, Nat.mul_comm]
theorem two_words_high (hi lo j : Nat) (hl : lo < 18446744073709551616) (hj : 64 ≤ j) (hj2 : j < 128) : (hi * 18446744073709551616 + lo).testBit j = hi.testBit (j % 64) := by
  have h := Nat.testBit_two_pow_mul_add hi (i := 64) (b := lo) (by omega) j
  rw [if_neg (by omega)] at h
  have e : j % 64 = j - 64 := by omega
  rw [e, ← h, Nat.mul_comm]
/-- What a round leaves: rest and quotient of the bits from j on. -/
def Rest (N c j : Nat) (r q : Int) : Prop := r = ((N / 2 ^ j % c : Nat) : Int) ∧ q = ((N / 2 ^ j / c : Nat) : Int)
theorem rest_big {N c j : Nat} {r q : Int} (h : Rest N c j r q) (hq : 4611686018427387904 < q) : mdN ((N : Int) / c) = 0 ∧ mdE ((N : Int) / c) = 5 := by
  have h1 : N / 2 ^ j / c ≤ N / c := Nat.div_le_div_right (Nat.div_le_self _ _)
  have h2 : (N : Int) / c = ((N / c : Nat) : Int) := by simp
  have h3 : 4611686018427387904 < (N : Int) / c := by rw [h2]; have := h.2; omega
  unfold mdN mdE
  rw [if_pos h3, if_pos h3]
  exact ⟨rfl, rfl⟩
theorem rest_done {N c : Nat} {r q : Int} (h : Rest N c 0 r q) : q = (N : Int) / c := by
  have := h.2
  simpa using this
theorem rest_hit {N c j : Nat} {r q : Int} {b : Nat} (hc : 1 ≤ c) (h : Rest N c (j + 1) r q) (hb : (if N.testBit j then 1 else 0) = b) (ht : (c : Int) ≤ r * 2 + b) : Rest N c j (r * 2 + b - c) (q * 2 + 1) := by
  have hs := (long_step (N / 2 ^ (j + 1)) (N / 2 ^ j) c b hc (by rw [← hb]; exact bit_step N c j hc) (by rw [← hb]; split <;> omega)).1 (by have := h.1; omega)
  refine ⟨?_, ?_⟩
  · rw [hs.1]; have := h.1; omega
  · rw [hs.2]; have := h.2; omega
theorem rest_miss {N c j : Nat} {r q : Int} {b : Nat} (hc : 1 ≤ c) (h : Rest N c (j + 1) r q) (hb : (if N.testBit j then 1 else 0) = b) (ht : r * 2 + b < c) : Rest N c j (r * 2 + b) (q * 2) := by
  have hs := (long_step (N / 2 ^ (j + 1)) (N / 2 ^ j) c b hc (by rw [← hb]; exact bit_step N c j hc) (by rw [← hb]; split <;> omega)).2 (by have := h.1; omega)
  refine ⟨?_, ?_⟩
  · rw [hs.1]; have := h.1; omega
  · rw [hs.2]; have := h.2; omega
set_option maxHeartbeats 4000000 in
theorem ref_muldiv_walk (a b : Int) (c hi lo N : Nat) (w : World) (a0 : 0 ≤ a) (a1 : a ≤ 9223372036854775807) (b0 : 0 ≤ b) (b1 : b ≤ 9223372036854775807) (c0 : 1 ≤ c) (c1 : c ≤ 9223372036854775807)
    (p1 : hi ≤ 18446744073709551615) (q1 : lo ≤ 18446744073709551615) (HN : Hid (hi * 18446744073709551616 + lo = N))
    (hm : ∀ w, Calls Tryd.prog 65 #[.int .u64 a, .int .u64 b] w fun e w' => e = .returned (.agg #[.int .u64 hi, .int .u64 lo]) ∧ Below w.heap.size w w') :
    Calls Tryd.prog 49 #[.int .i64 a, .int .i64 b, .int .i64 c] w fun e w' => e = .returned (.tuple #[.int .i64 (mdN ((N : Int) / c)), .int .i64 (mdE ((N : Int) / c))]) ∧ Below w.heap.size w w' := by
  have hn1 : ¬ a < 0 := by omega
  have hn2 : ¬ b < 0 := by omega
  have hn3 : ¬ (c : Int) < 1 := by omega
  go_enter Tryd.func49, Tryd.ntmps49
  go_wp2_with (go_at_call 65; refine (hm _).mono ?_; rintro e w1 ⟨rfl, hb1⟩)
  clear hm
  go_loop [9, 10, 11] (fun x y z => ∃ i r q : Int, -1 ≤ i ∧ i ≤ 127 ∧ z = .int .i64 i ∧ x = .int .u64 r ∧ y = .int .u64 q ∧ Hid (Rest N c (i + 1).toNat r q) ∧ 0 ≤ r ∧ r < c ∧ 0 ≤ q) (fun _ _ z => (intOf z + 1).toNat)
  case atStart =>
    have hN : N < 2 ^ 128 := by have := HN.out; omega
    refine ⟨127, 0, 0, by omega, by omega, rfl, rfl, rfl, Lib.hid ⟨?_, ?_⟩, by omega, by omega, by omega⟩
    · rw [show ((127 : Int) + 1).toNat = 128 by decide, Nat.div_eq_of_lt hN]; simp
    · rw [show ((127 : Int) + 1).toNat = 128 by decide, Nat.div_eq_of_lt hN]; simp
  case round =>
    obtain ⟨i, r, q, hi0, hi1, rfl, rfl, rfl, HR, r0, r1, q0⟩ := hrel
    by_cases hneg : i < 0
    · obtain rfl : i = -1 := by omega
      have hq := Lib.hid (rest_done (c := c) HR.out)
      by_cases hbig : 4611686018427387904 < q
      · have hr := Lib.hid (rest_big HR.out hbig)
        go_wp2
        go_ret2
        exact ⟨by show Ending.returned (.tuple #[.int .i64 0, .int .i64 5]) = _; rw [hr.out.1, hr.out.2], hb1.alloc hb1.size _⟩
      · have e1 : mdN q = q := by unfold mdN; rw [if_neg hbig]
        have e2 : mdE q = 0 := by unfold mdE; rw [if_neg hbig]
        have H1 := Lib.hid e1
        have H2 := Lib.hid e2
        clear e1 e2
        go_wp2
        go_ret2
        exact ⟨by show Ending.returned (.tuple #[.int .i64 q, .int .i64 0]) = _; rw [← hq.out, H1.out, H2.out], hb1.alloc hb1.size _⟩
    · obtain ⟨j, rfl⟩ := Int.eq_ofNat_of_zero_le (show 0 ≤ i by omega)
      have em := i64_mask 6 (by decide) (j : Int)
      have em' : bits .and .i64 (j : Int) 63 = ((j % 64 : Nat) : Int) := by rw [Int.natCast_emod]; exact em
      clear em
      have HJ : Hid (Rest N c (j + 1) r q) := Lib.hid (by have := HR.out; rw [show ((j : Int) + 1).toNat = j + 1 by omega] at this; exact this)
      clear HR
      obtain ⟨b, hb, hb2⟩ : ∃ b : Nat, (if N.testBit j then 1 else 0) = b ∧ b ≤ 1 := ⟨_, rfl, by split <;> omega⟩
      have Hb := Lib.hid hb
      obtain ⟨rn, rfl⟩ := Int.eq_ofNat_of_zero_le r0
      obtain ⟨qn, rfl⟩ := Int.eq_ofNat_of_zero_le q0
      have eor := or_bit rn b (by omega) hb2
      have hlow : j < 64 → bits .and .u64 ((lo : Int) / 2 ^ (j % 64)) 1 = (b : Int) := fun h => by
        rw [u64_bit lo _ (by omega), ← two_words_low hi lo j (by omega) h, HN.out, ← hb]; split <;> rfl
      have hhigh : 64 ≤ j → bits .and .u64 ((hi : Int) / 2 ^ (j % 64)) 1 = (b : Int) := fun h => by
        rw [u64_bit hi _ (by omega), ← two_words_high hi lo j (by omega) h (by omega), HN.out, ← hb]; split <;> rfl
      clear hb
      by_cases hbig : 4611686018427387904 < (qn : Int)
      · have hr := Lib.hid (rest_big HJ.out hbig)
        by_cases h64 : (j : Int) < 64
        · have hbit := hlow (by omega)
          clear hlow hhigh
          go_wp2
          go_ret2
          exact ⟨by show Ending.returned (.tuple #[.int .i64 0, .int .i64 5]) = _; rw [hr.out.1, hr.out.2], hb1.alloc hb1.size _⟩
        · have hbit := hhigh (by omega)
          clear hlow hhigh
          go_wp2
          go_ret2
          exact ⟨by show Ending.returned (.tuple #[.int .i64 0, .int .i64 5]) = _; rw [hr.out.1, hr.out.2], hb1.alloc hb1.size _⟩
      · have eq1 := or_bit qn 1 (by omega) (by omega)
        have eq2 : bits .or .u64 ((qn : Int) * 2) 1 = (qn : Int) * 2 + 1 := eq1
        clear eq1
        by_cases hge : (c : Int) ≤ (rn : Int) * 2 + b
        · have hr := Lib.hid (rest_hit c0 HJ.out Hb.out hge)
          by_cases h64 : (j : Int) < 64
          · have hbit := hlow (by omega)
            clear hlow hhigh
            go_wp2
            go_round
            case rel => exact ⟨(j : Int) - 1, _, _, by omega, by omega, rfl, rfl, rfl, by rw [show ((j : Int) - 1 + 1).toNat = j by omega]; exact hr, by omega, by omega, by omega⟩
            case measure => simp [intOf]
          · have hbit := hhigh (by omega)
            clear hlow hhigh
            go_wp2
            go_round
            case rel => exact ⟨(j : Int) - 1, _, _, by omega, by omega, rfl, rfl, rfl, by rw [show ((j : Int) - 1 + 1).toNat = j by omega]; exact hr, by omega, by omega, by omega⟩
            case measure => simp [intOf]
        · have hr := Lib.hid (rest_miss c0 HJ.out Hb.out (by omega))
          by_cases h64 : (j : Int) < 64
          · have hbit := hlow (by omega)
            clear hlow hhigh
            go_wp2
            go_round
            case rel => exact ⟨(j : Int) - 1, _, _, by omega, by omega, rfl, rfl, rfl, by rw [show ((j : Int) - 1 + 1).toNat = j by omega]; exact hr, by omega, by omega, by omega⟩
            case measure => simp [intOf]
          · have hbit := hhigh (by omega)
            clear hlow hhigh
            go_wp2
            go_round
            case rel => exact ⟨(j : Int) - 1, _, _, by omega, by omega, rfl, rfl, rfl, by rw [show ((j : Int) - 1 + 1).toNat = j by omega]; exact hr, by omega, by omega, by omega⟩
            case measure => simp [intOf]
end Go.Proofs.YtgnopnifdiipkaaDoor
