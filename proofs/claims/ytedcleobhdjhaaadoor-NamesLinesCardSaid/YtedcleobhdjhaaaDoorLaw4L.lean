/- The walk of the law NamesLines. -/
import Derived.Test.YtedcleobhdjhaaaDoorKnown4
import Derived.Test.YtedcleobhdjhaaaDoorNums
import Derived.Test.YtedcleobhdjhaaaDoorRFields
namespace Go.Proofs.YtedcleobhdjhaaaDoor
open Go.RowKit
set_option linter.unusedVariables false
set_option linter.unusedSimpArgs false
set_option maxRecDepth 100000 in
set_option maxHeartbeats 2000000 in
theorem namesLines_walk (s : ByteArray) (W : World) (ws : s.size ≤ maxLen) (ht : Tab10 W) :
    Calls Tryd.prog 6 #[.string s] W fun e w' => e = .returned (.bool true) ∧ Below W.heap.size W w' := by
  have h7 := fun w (hb : Below W.heap.size W w) => known_any w (ht.below hb)
  have g1 : s.size ≤ 9223372036854775807 := by unfold maxLen at ws; omega
  clear ht
  by_cases hl : 2000 < s.size
  · go_enter Tryd.func6, Tryd.ntmps6
    go_wp2_with (go_at_call 15; refine (h7 _ (Below.refl _ _)).mono ?_; rintro e w3 ⟨rfl, hb3⟩)
    go_ret
    exact ⟨rfl, hb3⟩
  · have h1 := fun w => lines_any s w ws
    have h2 := fun w => rlines_any s w ws
    have h3 := fun w => fields_any s w (by omega)
    have h4 := fun w => rfields_any s w (by omega)
    clear ws
    generalize linE (byt s) = E at *
    generalize linL (byt s) = Q at *
    generalize (fieldsG [] (byt s)).map strOfNums = F at *
    go_enter Tryd.func6, Tryd.ntmps6
    go_wp2_with (first
      | (go_at_call 21; refine (h1 _).mono ?_; rintro e w1 ⟨v1, rfl, o1, hb1⟩)
      | (go_at_call 22; refine (h2 _).mono ?_; rintro e w2 ⟨v2, rfl, o2, hb2⟩; have hb12 := hb1.trans (hb2.mono hb1.size); have hsm := same_yes Q v1 v2 w2 (o1.rd.below hb2) o2.rd; clear h1 h2 o1 o2)
      | (go_at_call 23; first
        | ((with_reducible refine hsm.mono ?_); rintro e w3 ⟨rfl, hb3⟩; have hb13 := hb12.trans (hb3.mono hb12.size); clear hsm)
        | ((with_reducible refine hsf.mono ?_); rintro e w6 ⟨rfl, hb6⟩; have hb16 := hb15.trans (hb6.mono hb15.size); clear hsf))
      | (go_at_call 24; refine (h3 _).mono ?_; rintro e w4 ⟨v4, rfl, o4, hb4⟩; have hb14 := hb13.trans (hb4.mono hb13.size))
      | (go_at_call 25; refine (h4 _).mono ?_; rintro e w5 ⟨v5, rfl, o5, hb5⟩; have hb15 := hb14.trans (hb5.mono hb14.size); have hsf := same_yes F v4 v5 w5 (o4.rd.below hb5) o5.rd; clear o4 o5)
      | (go_at_call 15; refine (h7 _ hb16).mono ?_; rintro e w7 ⟨rfl, hb7⟩))
    go_ret
    exact ⟨rfl, hb16.trans (hb7.mono hb16.size)⟩
end Go.Proofs.YtedcleobhdjhaaaDoor
