/- A region's ways meet behind it: all its slots are forgotten but the first, of which, with the world, something is known. -/
import Derived.Test.YtcmekpdgikploaaMeet
namespace Go.Proofs.Ytcmekpdgikploaa
open Go.RowKit
set_option linter.unusedVariables false
/-- The frame but for slot i, which is v, and the n slots behind it. -/
def OffV (i n : Nat) (v : Value) (a a' : Act) : Prop := ∃ us : List Value, us.length = n ∧ a' = ⟨(a.tmps.toList.take i ++ v :: us ++ a.tmps.toList.drop (i + (n + 1))).toArray, a.defers⟩
theorem wp_meetV {P : Program} {s : Code} {Q : Exit → Act → World → Prop} {a : Act} {w : World} (i n : Nat) (R : Value → World → Prop)
    (first : ∀ G : Act → World → Prop, (∀ a' w' v, OffV i n v a a' → R v w' → G a' w') → s.wp P (Plain G) a w)
    (rest : ∀ a' w' v, OffV i n v a a' → R v w' → Q .normal a' w') : s.wp P Q a w := by
  refine wp_mono (first (fun a' w' => ∃ v, OffV i n v a a' ∧ R v w') (fun _ _ v h1 h2 => ⟨v, h1, h2⟩)) ?_
  intro e a' w' h
  cases e with
  | normal =>
    obtain ⟨v, h1, h2⟩ := h
    exact rest _ _ _ h1 h2
  | _ => exact h.elim
end Go.Proofs.Ytcmekpdgikploaa
