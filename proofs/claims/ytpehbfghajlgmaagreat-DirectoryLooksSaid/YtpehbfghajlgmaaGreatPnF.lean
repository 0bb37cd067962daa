/- sort.Search; the place of a commit in a list of pins. -/
import Derived.Test.YtpehbfghajlgmaaGreatPnR
import Derived.Shelf.Abstract
import Derived.Deep.QuietTactic
import Derived.BigQuiet
import Derived.Lib.Walk
import Derived.Deep.CutBlock
import Derived.Deep.CutRange
namespace Go.Proofs.YtpehbfghajlgmaaGreat
open Go.RowKit
set_option linter.unusedVariables false
set_option linter.unusedSimpArgs false
/-- A closure that answers p below n, and only draws. -/
def TellsS (f : FuncId) (c1 c2 : Value) (p : Nat → Bool) (n : Nat) (w : World) : Prop :=
  (∀ args w, (callFunc f args).run Tryz.prog w = .ok (.enter f args) w) ∧ ∀ m i, i < n → Calls Tryz.prog f #[.int .i64 (i : Int), c1, c2] (w.drewN m) fun e w' => e = .returned (.bool (p i)) ∧ ∃ m', w' = w.drewN m'
theorem Vd.sorted {L : List Pn} {k : Int} (h : Vd k L) : ∀ i j, i ≤ j → j < L.length → (L.getD i Pn.z).m ≤ (L.getD j Pn.z).m := by
  intro i j hij hj
  induction j with
  | zero => obtain rfl : i = 0 := by omega
            exact Int.le_refl _
  | succ j ih =>
    rcases Nat.lt_or_ge i (j + 1) with h1 | h1
    · have h2 := ih (by omega) (by omega)
      have h3 := (vd_at h (j + 1) hj).2.2
      rw [if_neg (by omega), show j + 1 - 1 = j from rfl] at h3
      omega
    · obtain rfl : i = j + 1 := by omega
      exact Int.le_refl _
/-- What find answers: the first place whose commit is at least c, and whether it is c. -/
def FindPost (L : List Pn) (c : Int) (w : World) (e : Ending) (w' : World) : Prop :=
  ∃ (k : Nat) (b : Bool), k ≤ L.length ∧ (∀ i, i < k → (L.getD i Pn.z).m < c) ∧ (k < L.length → c ≤ (L.getD k Pn.z).m) ∧ (b = true ↔ k < L.length ∧ (L.getD k Pn.z).m = c) ∧ e = .returned (.tuple #[.int .i64 (k : Int), .bool b]) ∧ Below w.heap.size w w'
end Go.Proofs.YtpehbfghajlgmaaGreat
