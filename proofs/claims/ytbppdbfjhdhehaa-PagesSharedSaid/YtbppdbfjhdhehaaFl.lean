/- An int below 2^53 is a float, and comes back. No program. -/
import Derived.Laws.FloatArith
namespace Go.Proofs.Ytbppdbfjhdhehaa
set_option linter.unusedVariables false
set_option linter.unusedSimpArgs false
open Ieee
theorem near_small (n : Nat) (h0 : 0 < n) (h : n < 9007199254740992) :
    double.nearest false n 0 = (n.log2 + 1022) * 4503599627370496 + n * 2 ^ (52 - n.log2) := by
  have hl : n.log2 < 53 := (Nat.log2_lt (by omega)).2 (by omega)
  unfold Format.nearest
  rw [if_neg (by omega)]
  have e1 : max ((0 : Int) + (n.log2 : Int) - (double.fractionBits : Int)) double.leastPlace = (n.log2 : Int) - 52 := by
    show max ((0 : Int) + (n.log2 : Int) - 52) (-1074) = _
    omega
  rw [e1]
  have e2 : ((0 : Int) - ((n.log2 : Int) - 52)).toNat = 52 - n.log2 := by omega
  have e3 : (((n.log2 : Int) - 52) - 0).toNat = 0 := by omega
  have e4 : (((n.log2 : Int) - 52) - double.leastPlace).toNat = n.log2 + 1022 := by
    show (((n.log2 : Int) - 52) - (-1074)).toNat = _
    omega
  dsimp only
  rw [e2, e3, e4]
  have e5 : ∀ m : Nat, Toward.even.cut false m 0 = m := by
    intro m
    unfold Toward.cut
    simp [Nat.mod_one]
  rw [e5, Nat.shiftLeft_eq]
  have hp : n * 2 ^ (52 - n.log2) < 9007199254740992 := by
    have h1 : n < 2 ^ (n.log2 + 1) := Nat.lt_log2_self
    calc n * 2 ^ (52 - n.log2) < 2 ^ (n.log2 + 1) * 2 ^ (52 - n.log2) := Nat.mul_lt_mul_of_pos_right h1 (Nat.two_pow_pos _)
      _ = 2 ^ 53 := by rw [← Nat.pow_add]; congr 1; omega
      _ = 9007199254740992 := by decide
  show double.word false (min ((n.log2 + 1022) * 2 ^ 52 + n * 2 ^ (52 - n.log2)) ((2 ^ 11 - 1) * 2 ^ 52)) = _
  rw [Nat.min_eq_left (by omega)]
  rfl
theorem read_small (n : Nat) (h0 : 0 < n) (h : n < 9007199254740992) :
    double.read ((n.log2 + 1022) * 4503599627370496 + n * 2 ^ (52 - n.log2)) = .number false (n * 2 ^ (52 - n.log2)) ((n.log2 : Int) - 52) := by
  have hl : n.log2 < 53 := (Nat.log2_lt (by omega)).2 (by omega)
  have h2 : 2 ^ n.log2 ≤ n := Nat.log2_self_le (by omega)
  have h1 : n < 2 ^ (n.log2 + 1) := Nat.lt_log2_self
  have ha : 4503599627370496 ≤ n * 2 ^ (52 - n.log2) := by
    calc 4503599627370496 = 2 ^ n.log2 * 2 ^ (52 - n.log2) := by rw [← Nat.pow_add, show n.log2 + (52 - n.log2) = 52 by omega]
      _ ≤ _ := Nat.mul_le_mul_right _ h2
  have hb : n * 2 ^ (52 - n.log2) < 9007199254740992 := by
    calc n * 2 ^ (52 - n.log2) < 2 ^ (n.log2 + 1) * 2 ^ (52 - n.log2) := Nat.mul_lt_mul_of_pos_right h1 (Nat.two_pow_pos _)
      _ = 2 ^ 53 := by rw [← Nat.pow_add]; congr 1; omega
      _ = 9007199254740992 := by decide
  generalize n * 2 ^ (52 - n.log2) = m at *
  generalize n.log2 = l at *
  unfold Format.read
  have e1 : double.signWeight = 9223372036854775808 := by decide
  have e2 : double.binade = 4503599627370496 := by decide
  have e3 : double.infRung = 9218868437227405312 := by decide
  have e4 : double.leastPlace = -1074 := by decide
  rw [e1, e2, e3, e4]
  dsimp only
  have d1 : ((l + 1022) * 4503599627370496 + m) / 9223372036854775808 = 0 := by omega
  have d2 : ((l + 1022) * 4503599627370496 + m) % 9223372036854775808 = (l + 1022) * 4503599627370496 + m := by omega
  rw [d1, d2, if_neg (by omega), if_pos (by omega)]
  have d3 : ((l + 1022) * 4503599627370496 + m) % 4503599627370496 = m - 4503599627370496 := by omega
  have d4 : ((l + 1022) * 4503599627370496 + m) / 4503599627370496 - 1 = l + 1022 := by omega
  rw [d3, d4]
  have d5 : 4503599627370496 + (m - 4503599627370496) = m := by omega
  have d6 : (-1074 : Int) + ((l + 1022 : Nat) : Int) = (l : Int) - 52 := by omega
  rw [d5, d6]
  rfl
theorem toInt_small (n : Nat) (h0 : 0 < n) (h : n < 9007199254740992) : (double.read (double.nearest false n 0)).toInt .zero = some (n : Int) := by
  have hl : n.log2 < 53 := (Nat.log2_lt (by omega)).2 (by omega)
  rw [near_small n h0 h, read_small n h0 h]
  unfold Datum.toInt Datum.integral
  dsimp only
  have e1 : ((n.log2 : Int) - 52).toNat = 0 := by omega
  have e2 : (-((n.log2 : Int) - 52)).toNat = 52 - n.log2 := by omega
  rw [e1, e2]
  have h2 : 2 ^ n.log2 ≤ n := Nat.log2_self_le (by omega)
  have hlog : (n * 2 ^ (52 - n.log2)).log2 = 52 := by
    have h1 : n < 2 ^ (n.log2 + 1) := Nat.lt_log2_self
    refine (Nat.log2_eq_iff (Nat.ne_of_gt (Nat.mul_pos h0 (Nat.two_pow_pos _)))).2 ⟨?_, ?_⟩
    · calc 2 ^ 52 = 2 ^ n.log2 * 2 ^ (52 - n.log2) := by rw [← Nat.pow_add, show n.log2 + (52 - n.log2) = 52 by omega]
        _ ≤ _ := Nat.mul_le_mul_right _ h2
    · calc n * 2 ^ (52 - n.log2) < 2 ^ (n.log2 + 1) * 2 ^ (52 - n.log2) := Nat.mul_lt_mul_of_pos_right h1 (Nat.two_pow_pos _)
        _ = 2 ^ (52 + 1) := by rw [← Nat.pow_add]; congr 1; omega
  unfold Toward.cut
  rw [Nat.shiftLeft_zero, hlog, Nat.min_eq_left (by omega), Nat.shiftLeft_eq, Nat.one_mul]
  dsimp only
  rw [Nat.mul_div_cancel _ (Nat.two_pow_pos _)]
  simp [signed]
/-- An int as a float. -/
def flN (n : Nat) : Nat := floatOfInt .f64 (n : Int)
theorem fl_back53 (n : Nat) (h : n < 9007199254740992) : floatToIntVal .f64 (flN n) .i64 = some (n : Int) := by
  by_cases h0 : n = 0
  · subst h0
    decide +kernel
  · have e : flN n = double.nearest false n 0 := by
      unfold flN floatOfInt
      show double.write (.number (decide ((n : Int) < 0)) (n : Int).natAbs 0) = _
      rw [show decide ((n : Int) < 0) = false by simp, Int.natAbs_natCast]
      rfl
    unfold floatToIntVal
    rw [e]
    have := toInt_small n (by omega) h
    show (match (double.read (double.nearest false n 0)).toInt .zero with
      | some n => if IntKind.i64.min ≤ n ∧ n ≤ IntKind.i64.max then some n else none
      | none => none) = _
    rw [this]
    dsimp only
    rw [if_pos]
    constructor
    · show (-9223372036854775808 : Int) ≤ _
      omega
    · show _ ≤ (9223372036854775807 : Int)
      omega
end Go.Proofs.Ytbppdbfjhdhehaa
