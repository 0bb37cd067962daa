/- The contracts of the reference's tally but its codes. -/
import Derived.Test.YtmmdnomfpfcjiaaRefSat
import Derived.Test.YtmmdnomfpfcjiaaTally
namespace Go.Proofs.Ytmmdnomfpfcjiaa
open Go.RowKit
set_option linter.unusedVariables false
set_option linter.unusedSimpArgs false
theorem radd_count (a b : Int) (w : World) (a0 : -9223372036854775808 ≤ a) (a1 : a ≤ 9223372036854775807) (b0 : -9223372036854775808 ≤ b) (b1 : b ≤ 9223372036854775807) :
    Calls Try.prog 57 #[.int .i64 a, .int .i64 b, .int .i64 4294967295] w fun e w' => e = .returned (.tuple #[.int .i64 (sumT a b), .bool (sumF a b)]) ∧ w = w' :=
  ref_add_any a b 4294967295 w a0 a1 b0 b1 (by decide) (by decide)
/-- A number from l to h. -/
def inW (n l h : Int) : Bool := decide (l ≤ n) && decide (n ≤ h)
theorem rwithin_any (n l h : Int) (w : World) :
    Calls Try.prog 35 #[.int .i64 n, .int .i64 l, .int .i64 h] w fun e w' => e = .returned (.bool (inW n l h)) ∧ w = w' := by
  unfold inW
  go_enter Try.func35, Try.ntmps35
  go_wp2
  all_goals
    go_ret
    exact ⟨ret_bool (by simp [*] <;> omega), rfl⟩
theorem valT_in (T I : Int) : valT T I = if inW T 0 4294967295 = true ∧ inW I 0 4294967295 = true ∧ I ≤ T then 0 else 5 := by
  unfold valT inW
  by_cases h : 4294967295 < T ∨ I < 0 ∨ T < I
  · rw [if_pos h, if_neg (by simp; omega)]
  · rw [if_neg h, if_pos (by simp; omega)]
end Go.Proofs.Ytmmdnomfpfcjiaa
