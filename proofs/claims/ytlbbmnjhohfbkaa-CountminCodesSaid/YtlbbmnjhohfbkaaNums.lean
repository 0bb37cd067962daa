/- Plain numbers behind the laws of layer 1: no program. -/
import Derived.WalkKit
namespace Go.Proofs.Ytlbbmnjhohfbkaa
open Go.RowKit
set_option linter.unusedVariables false
set_option linter.unusedSimpArgs false
/-- n, or 0 where n is negative. -/
def nat0 (n : Int) : Int := max n 0
/-- x limited to m; and whether it had to be. -/
def satN (x m : Int) : Int := if m < x then m else x
def satF (x m : Int) : Bool := decide (m < x)
theorem nat0_bd (n : Int) (h : n ≤ 9223372036854775807) : 0 ≤ nat0 n ∧ nat0 n ≤ 9223372036854775807 := by unfold nat0; omega
theorem nat0_of (n : Int) (h : 0 ≤ n) : nat0 n = n := by unfold nat0; omega
theorem wf_bd {n : Int} (h : (Lit.int .i64 n).wf = true) : -9223372036854775808 ≤ n ∧ n ≤ 9223372036854775807 := by
  simpa [Lit.wf, IntKind.min, IntKind.max, IntKind.signed, IntKind.bits] using h
theorem wf_bdu {n : Int} (h : (Lit.int .u64 n).wf = true) : 0 ≤ n ∧ n ≤ 18446744073709551615 := by
  simpa [Lit.wf, IntKind.min, IntKind.max, IntKind.signed, IntKind.bits] using h
theorem ret_int {k : IntKind} {a b : Int} (h : a = b) : Ending.returned (.int k a) = .returned (.int k b) := by rw [h]
theorem ret_bool {a b : Bool} (h : a = b) : Ending.returned (.bool a) = .returned (.bool b) := by rw [h]
end Go.Proofs.Ytlbbmnjhohfbkaa
