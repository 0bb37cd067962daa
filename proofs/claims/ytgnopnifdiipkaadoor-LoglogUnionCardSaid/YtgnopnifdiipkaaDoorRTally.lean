/- The contracts of the reference's tally but its codes. -/
import Derived.Test.YtgnopnifdiipkaaDoorRefSat
import Derived.Test.YtgnopnifdiipkaaDoorTally
namespace Go.Proofs.YtgnopnifdiipkaaDoor
open Go.RowKit
set_option linter.unusedVariables false
set_option linter.unusedSimpArgs false
/-- A number from l to h. -/
def inW (n l h : Int) : Bool := decide (l ≤ n) && decide (n ≤ h)
theorem rwithin_any (n l h : Int) (w : World) :
    Calls Tryd.prog 33 #[.int .i64 n, .int .i64 l, .int .i64 h] w fun e w' => e = .returned (.bool (inW n l h)) ∧ w = w' := by
  unfold inW
  go_enter Tryd.func33, Tryd.ntmps33
  go_wp2
  all_goals
    go_ret
    exact ⟨ret_bool (by simp [*] <;> omega), rfl⟩
theorem valT_in (T I : Int) : valT T I = if inW T 0 4294967295 = true ∧ inW I 0 4294967295 = true ∧ I ≤ T then 0 else 5 := by
  unfold valT inW
  by_cases h : 4294967295 < T ∨ I < 0 ∨ T < I
  · rw [if_pos h, if_neg (by simp; omega)]
  · rw [if_neg h, if_pos (by simp; omega)]
end Go.Proofs.YtgnopnifdiipkaaDoor
