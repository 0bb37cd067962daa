/- A region's ways meet behind it: m slots from j on are forgotten; of slot i (slots i and k) and the world something is known. -/
import Derived.Test.YtpehbfghajlgmaaGreatMeet
namespace Go.Proofs.YtpehbfghajlgmaaGreat
open Go.RowKit
set_option linter.unusedVariables false
/-- The frame but for slot i, which is v, and m slots from j on. -/
def OffX (i j m : Nat) (v : Value) (a a' : Act) : Prop := ∃ us : List Value, us.length = m ∧ a' = ⟨((a.tmps.toList.set i v).take j ++ us ++ a.tmps.toList.drop (j + m)).toArray, a.defers⟩
theorem wp_meetX {P : Program} {s : Code} {Q : Exit → Act → World → Prop} {a : Act} {w : World} (i j m : Nat) (R : Value → World → Prop)
    (first : ∀ G : Act → World → Prop, (∀ a' w' v, OffX i j m v a a' → R v w' → G a' w') → s.wp P (Plain G) a w)
    (rest : ∀ a' w' v, OffX i j m v a a' → R v w' → Q .normal a' w') : s.wp P Q a w := by
  refine wp_mono (first (fun a' w' => ∃ v, OffX i j m v a a' ∧ R v w') (fun _ _ v h1 h2 => ⟨v, h1, h2⟩)) ?_
  intro e a' w' h
  cases e with
  | normal =>
    obtain ⟨v, h1, h2⟩ := h
    exact rest _ _ _ h1 h2
  | _ => exact h.elim
def OffY (i k j m : Nat) (v u : Value) (a a' : Act) : Prop := ∃ us : List Value, us.length = m ∧ a' = ⟨(((a.tmps.toList.set i v).set k u).take j ++ us ++ a.tmps.toList.drop (j + m)).toArray, a.defers⟩
theorem wp_meetY {P : Program} {s : Code} {Q : Exit → Act → World → Prop} {a : Act} {w : World} (i k j m : Nat) (R : Value → Value → World → Prop)
    (first : ∀ G : Act → World → Prop, (∀ a' w' v u, OffY i k j m v u a a' → R v u w' → G a' w') → s.wp P (Plain G) a w)
    (rest : ∀ a' w' v u, OffY i k j m v u a a' → R v u w' → Q .normal a' w') : s.wp P Q a w := by
  refine wp_mono (first (fun a' w' => ∃ v u, OffY i k j m v u a a' ∧ R v u w') (fun _ _ v u h1 h2 => ⟨v, u, h1, h2⟩)) ?_
  intro e a' w' h
  cases e with
  | normal =>
    obtain ⟨v, u, h1, h2⟩ := h
    exact rest _ _ _ _ h1 h2
  | _ => exact h.elim
def OffU (i n : Nat) (us : List Value) (a a' : Act) : Prop := us.length = n ∧ a' = ⟨(a.tmps.toList.take i ++ us ++ a.tmps.toList.drop (i + n)).toArray, a.defers⟩
theorem wp_meetU {P : Program} {s : Code} {Q : Exit → Act → World → Prop} {a : Act} {w : World} (i n : Nat) (R : List Value → World → Prop)
    (first : ∀ G : Act → World → Prop, (∀ a' w' us, OffU i n us a a' → R us w' → G a' w') → s.wp P (Plain G) a w)
    (rest : ∀ a' w' us, OffU i n us a a' → R us w' → Q .normal a' w') : s.wp P Q a w := by
  refine wp_mono (first (fun a' w' => ∃ us, OffU i n us a a' ∧ R us w') (fun _ _ us h1 h2 => ⟨us, h1, h2⟩)) ?_
  intro e a' w' h
  cases e with
  | normal =>
    obtain ⟨us, h1, h2⟩ := h
    exact rest _ _ _ h1 h2
  | _ => exact h.elim
/-- The end of a way: the range is read off the slots. -/
theorem offU_go {G : Act → World → Prop} {a : Act} {R : List Value → World → Prop} {i n : Nat} (hG : ∀ a' w' us, OffU i n us a a' → R us w' → G a' w') {l : List Value} {d : List Deferred} {w' : World} (h1 : ((l.drop i).take n).length = n)
    (h2 : a.tmps.toList.take i ++ (l.drop i).take n ++ a.tmps.toList.drop (i + n) = l) (h3 : a.defers = d) (h4 : R ((l.drop i).take n) w') : G ⟨l.toArray, d⟩ w' := hG _ _ _ ⟨h1, by rw [h2, h3]⟩ h4
end Go.Proofs.YtpehbfghajlgmaaGreat
