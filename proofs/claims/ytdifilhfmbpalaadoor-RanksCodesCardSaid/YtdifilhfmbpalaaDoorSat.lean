/- The contracts of package satur's additions and products at this translation. -/
import Derived.Test.YtdifilhfmbpalaaDoorProg
import Derived.Test.YtdifilhfmbpalaaDoorBits
import Derived.Test.YtdifilhfmbpalaaDoorWords
import Derived.WalkKit
import Derived.ProofKit
import Derived.Handy
namespace Go.Proofs.YtdifilhfmbpalaaDoor
open Go.RowKit
set_option linter.unusedVariables false
set_option linter.unusedSimpArgs false
theorem word_any (n : Int) (w : World) (h0 : -9223372036854775808 ≤ n) (h1 : n ≤ 9223372036854775807) :
    Calls Tryd.prog 86 #[.int .i64 n] w fun e w' => e = .returned (.int .u64 (nat0 n)) ∧ w = w' := by
  go_enter Tryd.func86, Tryd.ntmps86
  go_wp2
  go_ret
  exact ⟨ret_int (by unfold nat0; rfl), rfl⟩
/-- A number of two words, limited. -/
theorem saturate_full (high low most : Int) (w : World) (a0 : 0 ≤ high) (a1 : high ≤ 18446744073709551615) (b0 : 0 ≤ low) (b1 : low ≤ 18446744073709551615) (h0 : -9223372036854775808 ≤ most) (h1 : most ≤ 9223372036854775807) (h : 0 < high ∨ nat0 most < low) :
    Calls Tryd.prog 85 #[.int .u64 high, .int .u64 low, .int .i64 most] w fun e w' => e = .returned (.tuple #[.int .i64 (nat0 most), .bool true]) ∧ w = w' := by
  have hb := nat0_bd most h1
  generalize hm : nat0 most = m at *
  have hw : ∀ w, Calls Tryd.prog 86 #[.int .i64 most] w fun e w' => e = .returned (.int .u64 m) ∧ w = w' := fun w => hm ▸ word_any most w h0 h1
  clear hm
  by_cases hh : 0 < high
  · clear h
    go_enter Tryd.func85, Tryd.ntmps85
    go_wp2_with (go_at_call 86; refine (hw _).mono ?_; rintro e w' ⟨rfl, rfl⟩)
    go_ret2
    exact ⟨rfl, rfl⟩
  · have hl : m < low := by omega
    obtain rfl : high = 0 := by omega
    clear h hh
    go_enter Tryd.func85, Tryd.ntmps85
    go_wp2_with (go_at_call 86; refine (hw _).mono ?_; rintro e w' ⟨rfl, rfl⟩)
    go_ret2
    exact ⟨rfl, rfl⟩
theorem saturate_free (low most : Int) (w : World) (b0 : 0 ≤ low) (b1 : low ≤ nat0 most) (h0 : -9223372036854775808 ≤ most) (h1 : most ≤ 9223372036854775807) :
    Calls Tryd.prog 85 #[.int .u64 0, .int .u64 low, .int .i64 most] w fun e w' => e = .returned (.tuple #[.int .i64 low, .bool false]) ∧ w = w' := by
  have hb := nat0_bd most h1
  generalize hm : nat0 most = m at *
  have hw : ∀ w, Calls Tryd.prog 86 #[.int .i64 most] w fun e w' => e = .returned (.int .u64 m) ∧ w = w' := fun w => hm ▸ word_any most w h0 h1
  clear hm
  go_enter Tryd.func85, Tryd.ntmps85
  go_wp2_with (go_at_call 86; refine (hw _).mono ?_; rintro e w' ⟨rfl, rfl⟩)
  go_ret2
  exact ⟨rfl, rfl⟩
/-- The number of two words, whatever they are: x = high * 2^64 + low. -/
theorem saturate_any (high low most x : Int) (w : World) (a0 : 0 ≤ high) (a1 : high ≤ 18446744073709551615) (b0 : 0 ≤ low) (b1 : low ≤ 18446744073709551615) (hx : x = high * 18446744073709551616 + low) (h0 : -9223372036854775808 ≤ most) (h1 : most ≤ 9223372036854775807) :
    Calls Tryd.prog 85 #[.int .u64 high, .int .u64 low, .int .i64 most] w fun e w' => e = .returned (.tuple #[.int .i64 (satN x (nat0 most)), .bool (satF x (nat0 most))]) ∧ w = w' := by
  have hb := nat0_bd most h1
  by_cases h : nat0 most < x
  · have e1 : satN x (nat0 most) = nat0 most := by unfold satN; rw [if_pos h]
    have e2 : satF x (nat0 most) = true := by unfold satF; simpa using h
    rw [e1, e2]
    exact saturate_full high low most w a0 a1 b0 b1 h0 h1 (by omega)
  · obtain rfl : high = 0 := by omega
    have e0 : x = low := by omega
    have e1 : satN x (nat0 most) = low := by unfold satN; rw [if_neg h, e0]
    have e2 : satF x (nat0 most) = false := by unfold satF; simpa using h
    rw [e1, e2]
    exact saturate_free low most w b0 (by omega) h0 h1
theorem add_any (a b most : Int) (w : World) (a0 : -9223372036854775808 ≤ a) (a1 : a ≤ 9223372036854775807) (b0 : -9223372036854775808 ≤ b) (b1 : b ≤ 9223372036854775807) (h0 : -9223372036854775808 ≤ most) (h1 : most ≤ 9223372036854775807) :
    Calls Tryd.prog 67 #[.int .i64 a, .int .i64 b, .int .i64 most] w fun e w' => e = .returned (.tuple #[.int .i64 (satN (nat0 a + nat0 b) (nat0 most)), .bool (satF (nat0 a + nat0 b) (nat0 most))]) ∧ w = w' := by
  have ha := nat0_bd a a1
  have hb := nat0_bd b b1
  go_enter Tryd.func67, Tryd.ntmps67
  go_wp2_with (first | (go_at_call 86; refine (word_any _ _ (by omega) (by omega)).mono ?_; rintro e w' ⟨rfl, rfl⟩) | (go_at_call 85; refine (saturate_any _ _ _ (nat0 a + nat0 b) _ (by omega) (by omega) (by omega) (by omega) (by omega) (by omega) (by omega)).mono ?_; rintro e w' ⟨rfl, rfl⟩))
  go_ret2
  exact ⟨rfl, rfl⟩
end Go.Proofs.YtdifilhfmbpalaaDoor
