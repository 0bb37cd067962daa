/- The contracts of math/bits.Div64 and satur.MulDiv at this translation, for all words and ints. -/
import Derived.Test.YtjojgpccmedhpaaDoorDivW
namespace Go.Proofs.YtjojgpccmedhpaaDoor
open Go.RowKit
set_option linter.unusedVariables false
set_option linter.unusedSimpArgs false
theorem low32' (x : Int) (h0 : 0 ≤ x) (h1 : x ≤ 18446744073709551615) : bits .and .u64 x 4294967295 = x % 4294967296 := and_low32 x h0 (by omega)
theorem guess_start {Y V1 V0 U32 U1 : Int} (d : Digit Y V1 V0 U32 U1) : 0 ≤ U32 / V1 ∧ 0 ≤ U32 / V1 * V1 ∧ U32 / V1 * V1 ≤ U32 ∧ U32 < U32 / V1 * V1 + V1 := by
  have hv : 0 < V1 := by have := d.v1; omega
  have h0 : 0 ≤ U32 / V1 := Int.ediv_nonneg d.u (Int.le_of_lt hv)
  have h1 := Int.ediv_mul_le U32 (Int.ne_of_gt hv)
  have h2 := Int.lt_ediv_add_one_mul_self U32 hv
  rw [Int.add_mul, Int.one_mul] at h2
  exact ⟨h0, Int.mul_nonneg h0 (Int.le_of_lt hv), h1, h2⟩
/-- Div64 of two words. -/
theorem div64_high (hi lo y : Int) (w : World) (a0 : 0 < hi) (a1 : hi < y) (a2 : y ≤ 18446744073709551615) (b0 : 0 ≤ lo) (b1 : lo ≤ 18446744073709551615) :
    Calls Tryd.prog 26 #[.int .u64 hi, .int .u64 lo, .int .u64 y] w fun e w' => ∃ r, e = .returned (.tuple #[.int .u64 ((hi * 18446744073709551616 + lo) / y), .int .u64 r]) ∧ w = w' := by
  have hlz : ∀ w, Calls Tryd.prog 28 #[.int .u64 y] w fun e w' => e = .returned (.int .i64 (64 - (Lib.bitLen y.toNat : Int))) ∧ w = w' := fun w => (Tryd.lz64 y w (by omega) a2).mono fun _ _ h => ⟨h.1, h.2.symm⟩
  obtain ⟨hiN, rfl⟩ := Int.eq_ofNat_of_zero_le (show 0 ≤ hi by omega)
  obtain ⟨loN, rfl⟩ := Int.eq_ofNat_of_zero_le b0
  obtain ⟨yN, rfl⟩ := Int.eq_ofNat_of_zero_le (show 0 ≤ y by omega)
  rw [Int.toNat_natCast] at hlz
  obtain ⟨s, hs, hsl, Y, U32, U10, eY, eU, eL, l0, l1, y0, y1, u0, u1, hq⟩ := div_setup hiN loN yN (by omega) (by omega) (by omega) (by omega)
  rw [hsl] at hlz
  have d1 : Digit Y (Y / 4294967296) (Y % 4294967296) U32 (U10 / 4294967296) := ⟨by omega, by omega, by omega, by omega, by omega, by omega, by omega, by omega, by omega⟩
  obtain ⟨lft, lf0, lf1⟩ := d1.left
  have d2 : Digit Y (Y / 4294967296) (Y % 4294967296) ((U32 * 4294967296 + U10 / 4294967296) % Y) (U10 % 4294967296) := ⟨by omega, by omega, by omega, by omega, by omega, by omega, by omega, by omega, by omega⟩
  have s1 := guess_start d1
  have s2 := guess_start d2
  have hR : IntKind.u64.wrap (IntKind.u64.wrap (IntKind.u64.wrap (U32 * 4294967296) + U10 / 4294967296) - IntKind.u64.wrap (dig Y U32 (U10 / 4294967296) * Y)) = (U32 * 4294967296 + U10 / 4294967296) % Y := by
    simp only [IntKind.wrap_u64]
    generalize dig Y U32 (U10 / 4294967296) * Y = M at *
    generalize (U32 * 4294967296 + U10 / 4294967296) % Y = R at *
    omega
  have hw := fun w => div64_walk (hiN : Int) loN yN s Y U32 U10 (Y / 4294967296) (Y % 4294967296) (U10 / 4294967296) (U10 % 4294967296) _ _ _ _ _ w a0 a1 a2 b0 b1 hs hlz eY eU eL rfl (low32' Y (by omega) (by omega)) rfl (low32' U10 l0 (by omega))
    d1 (by omega) (by omega) (by omega) (by omega) u0 (by omega) (by omega) (by omega) (by omega) (by omega) s1.1 rfl s1.2.1 s1.2.2.1 s1.2.2.2 rfl d1.start hR lf0 (by omega) d2 s2.1 rfl s2.2.1 s2.2.2.1 s2.2.2.2 rfl d2.start d1.dig0 d1.dig_lt d2.dig0 d2.dig_lt
  have e : dig Y U32 (U10 / 4294967296) * 4294967296 + dig Y ((U32 * 4294967296 + U10 / 4294967296) % Y) (U10 % 4294967296) = ((hiN : Int) * 18446744073709551616 + loN) / yN := by
    rw [← hq]
    unfold dig
    rw [← two_digits d1.y0]
    congr 1
    omega
  rw [e] at hw
  exact hw w
/-- Div64 of any two words whose quotient is a word. -/
theorem div64_any (hi lo y : Int) (w : World) (a0 : 0 ≤ hi) (a1 : hi < y) (a2 : y ≤ 18446744073709551615) (b0 : 0 ≤ lo) (b1 : lo ≤ 18446744073709551615) :
    Calls Tryd.prog 26 #[.int .u64 hi, .int .u64 lo, .int .u64 y] w fun e w' => ∃ r, e = .returned (.tuple #[.int .u64 ((hi * 18446744073709551616 + lo) / y), .int .u64 r]) ∧ ∃ n, w' = w.drewN n := by
  by_cases h : hi = 0
  · subst h
    have e : (0 * 18446744073709551616 + lo) = lo := by omega
    rw [e]
    exact (div64_low lo y w b0 b1 (by omega) a2).mono fun _ _ h => ⟨_, h.1, h.2⟩
  · exact (div64_high hi lo y w (by omega) a1 a2 b0 b1).mono fun _ _ ⟨r, h1, h2⟩ => ⟨r, h1, 0, by rw [← h2]; rfl⟩
theorem muldiv_bad (a b c : Int) (w : World) (h : a < 0 ∨ b < 0 ∨ c < 1) :
    Calls Tryd.prog 13 #[.int .i64 a, .int .i64 b, .int .i64 c] w fun e w' => e = .returned (.tuple #[.int .i64 0, .int .i64 5]) ∧ w = w' := by
  by_cases h1 : a < 0
  · clear h
    go_enter Tryd.func13, Tryd.ntmps13
    go_wp2_with fail
    go_ret2
    exact ⟨rfl, rfl⟩
  · by_cases h2 : b < 0
    · clear h
      go_enter Tryd.func13, Tryd.ntmps13
      go_wp2_with fail
      go_ret2
      exact ⟨rfl, rfl⟩
    · have h3 : c < 1 := by omega
      clear h
      go_enter Tryd.func13, Tryd.ntmps13
      go_wp2_with fail
      go_ret2
      exact ⟨rfl, rfl⟩
/-- The quotient, or nothing where it is above 2^62. -/
def mdN (q : Int) : Int := if 4611686018427387904 < q then 0 else q
def mdE (q : Int) : Int := if 4611686018427387904 < q then 5 else 0
set_option maxHeartbeats 1000000 in
theorem muldiv_any (a b c : Int) (w : World) (a0 : 0 ≤ a) (a1 : a ≤ 9223372036854775807) (b0 : 0 ≤ b) (b1 : b ≤ 9223372036854775807) (c0 : 1 ≤ c) (c1 : c ≤ 9223372036854775807) :
    Calls Tryd.prog 13 #[.int .i64 a, .int .i64 b, .int .i64 c] w fun e w' => e = .returned (.tuple #[.int .i64 (mdN (a * b / c)), .int .i64 (mdE (a * b / c))]) ∧ ∃ n, w' = w.drewN n := by
  obtain ⟨hi, lo, p0, p1, q0, q1, e, hm⟩ := mul64_int a b a0 (by omega) b0 (by omega)
  rw [e]
  have hn1 : ¬ a < 0 := by omega
  have hn2 : ¬ b < 0 := by omega
  have hn3 : ¬ c < 1 := by omega
  by_cases hc : c ≤ hi
  · have hbig : 4611686018427387904 < (hi * 18446744073709551616 + lo) / c := by
      have h1 : c * 18446744073709551616 ≤ hi * 18446744073709551616 + lo := by omega
      have h2 : 18446744073709551616 ≤ (hi * 18446744073709551616 + lo) / c := (Int.le_ediv_iff_mul_le (by omega)).2 (by omega)
      omega
    have e1 : mdN ((hi * 18446744073709551616 + lo) / c) = 0 := by unfold mdN; rw [if_pos hbig]
    have e2 : mdE ((hi * 18446744073709551616 + lo) / c) = 5 := by unfold mdE; rw [if_pos hbig]
    rw [e1, e2]
    clear e e1 e2 hbig
    go_enter Tryd.func13, Tryd.ntmps13
    go_wp2_with (go_at_call 24; refine (hm _).mono ?_; rintro e w' ⟨rfl, rfl⟩)
    go_ret2
    exact ⟨rfl, 0, rfl⟩
  · have hd := fun w => div64_any hi lo c w p0 (by omega) (by omega) q0 q1
    have hq0 : 0 ≤ (hi * 18446744073709551616 + lo) / c := Int.ediv_nonneg (by omega) (by omega)
    have hq1 : (hi * 18446744073709551616 + lo) / c < 18446744073709551616 := by
      apply Int.ediv_lt_of_lt_mul (by omega)
      have h1 : (hi + 1) * 18446744073709551616 ≤ c * 18446744073709551616 := by omega
      omega
    generalize (hi * 18446744073709551616 + lo) / c = q at *
    clear e
    by_cases hbig : 4611686018427387904 < q
    · have e1 : mdN q = 0 := by unfold mdN; rw [if_pos hbig]
      have e2 : mdE q = 5 := by unfold mdE; rw [if_pos hbig]
      rw [e1, e2]
      clear e1 e2
      go_enter Tryd.func13, Tryd.ntmps13
      go_wp2_with (first | (go_at_call 24; refine (hm _).mono ?_; rintro e w' ⟨rfl, rfl⟩) | (go_at_call 26; refine (hd _).mono ?_; rintro e w' ⟨r, rfl, n, rfl⟩))
      go_ret2
      exact ⟨rfl, _, rfl⟩
    · have e1 : mdN q = q := by unfold mdN; rw [if_neg hbig]
      have e2 : mdE q = 0 := by unfold mdE; rw [if_neg hbig]
      rw [e1, e2]
      clear e1 e2
      go_enter Tryd.func13, Tryd.ntmps13
      go_wp2_with (first | (go_at_call 24; refine (hm _).mono ?_; rintro e w' ⟨rfl, rfl⟩) | (go_at_call 26; refine (hd _).mono ?_; rintro e w' ⟨r, rfl, n, rfl⟩))
      go_ret2
      exact ⟨rfl, _, rfl⟩
end Go.Proofs.YtjojgpccmedhpaaDoor
