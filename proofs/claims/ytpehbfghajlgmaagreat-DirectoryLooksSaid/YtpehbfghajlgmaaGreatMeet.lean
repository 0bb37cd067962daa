/- A region's ways meet behind it, also where it is the last statement of a loop's body. -/
import Derived.Test.YtpehbfghajlgmaaGreatBel
namespace Go.Proofs.YtpehbfghajlgmaaGreat
open Go.RowKit
set_option linter.unusedVariables false
/-- An end by no jump. -/
def Plain (G : Act → World → Prop) : Exit → Act → World → Prop
  | .normal, a, w => G a w
  | _, _, _ => False
/-- The frame but for n slots from i on. -/
def OffT (i n : Nat) (a a' : Act) : Prop := ∃ us : List Value, us.length = n ∧ a' = ⟨(a.tmps.toList.take i ++ us ++ a.tmps.toList.drop (i + n)).toArray, a.defers⟩
theorem wp_meet {P : Program} {s : Code} {Q : Exit → Act → World → Prop} {a : Act} {w : World} (i n : Nat) (R : World → Prop)
    (first : ∀ G : Act → World → Prop, (∀ a' w', OffT i n a a' → R w' → G a' w') → s.wp P (Plain G) a w)
    (rest : ∀ a' w', OffT i n a a' → R w' → Q .normal a' w') : s.wp P Q a w := by
  refine wp_mono (first (fun a' w' => OffT i n a a' ∧ R w') (fun _ _ h1 h2 => ⟨h1, h2⟩)) ?_
  intro e a' w' h
  cases e with
  | normal => exact rest _ _ h.1 h.2
  | _ => exact h.elim
end Go.Proofs.YtpehbfghajlgmaaGreat
