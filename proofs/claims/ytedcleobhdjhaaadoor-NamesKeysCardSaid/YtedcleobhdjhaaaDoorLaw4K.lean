/- The walk of the law NamesKeys. -/
import Derived.Test.YtedcleobhdjhaaaDoorKnown4
import Derived.Test.YtedcleobhdjhaaaDoorNums
import Derived.Test.YtedcleobhdjhaaaDoorKeyS
namespace Go.Proofs.YtedcleobhdjhaaaDoor
open Go.RowKit
set_option linter.unusedVariables false
set_option linter.unusedSimpArgs false
set_option maxRecDepth 100000 in
set_option maxHeartbeats 2000000 in
theorem namesKeys_walk (s : ByteArray) (n : Int) (W : World) (ws : s.size ≤ maxLen) (wn : (Lit.int .i64 n).wf = true) (ht : Tab10 W) :
    Calls Tryd.prog 4 #[.string s, .int .i64 n] W fun e w' => e = .returned (.bool true) ∧ Below W.heap.size W w' := by
  have h7 := fun w (hb : Below W.heap.size W w) => known_any w (ht.below hb)
  obtain ⟨n0, n1⟩ := wf_bd wn
  have g1 : s.size ≤ 9223372036854775807 := by unfold maxLen at ws; omega
  clear ht wn
  by_cases hl : 200 < s.size
  · go_enter Tryd.func4, Tryd.ntmps4
    go_wp2_with (go_at_call 15; refine (h7 _ (Below.refl _ _)).mono ?_; rintro e w3 ⟨rfl, hb3⟩)
    go_ret
    exact ⟨rfl, hb3⟩
  · have l1 : s.size ≤ 200 := by omega
    have h1 := fun w => formatKey_any s w ws
    have h2 := fun w => rformatKey_any s w ws
    have h3 := fun w => parseKey_any s w (by omega)
    have h4 := fun w => rparseKey_any s w (by omega)
    have hk := keyS_bd n
    have h5 := fun w => formatKey_any (keyS n) w (by unfold maxLen; omega)
    have h6 := fun w => rformatKey_any (keyS n) w (by unfold maxLen; omega)
    have h8 := fun w => key_any n w n0 n1
    clear hk hl ws
    generalize strOfNums (formK (byt s)).1 = A at *
    generalize (formK (byt s)).2 = E at *
    generalize strOfNums (parK (byt s)).1 = B at *
    generalize (parK (byt s)).2 = G at *
    generalize strOfNums (formK (byt (keyS n))).1 = C at *
    generalize (formK (byt (keyS n))).2 = F at *
    generalize keyS n = K at *
    go_enter Tryd.func4, Tryd.ntmps4
    go_wp2_with (first
      | (go_at_call 16; refine (h8 _).mono ?_; rintro e w1 ⟨rfl, hb1⟩)
      | (go_at_call 17; first
        | ((with_reducible refine (h1 _).mono ?_); rintro e w2 ⟨rfl, hb2⟩; have hb12 := hb1.trans (hb2.mono hb1.size); clear h1)
        | ((with_reducible refine (h5 _).mono ?_); rintro e w6 ⟨rfl, hb6⟩; have hb16 := hb15.trans (hb6.mono hb15.size)))
      | (go_at_call 18; first
        | ((with_reducible refine (h2 _).mono ?_); rintro e w3 ⟨rfl, hb3⟩; have hb13 := hb12.trans (hb3.mono hb12.size); clear h2)
        | ((with_reducible refine (h6 _).mono ?_); rintro e w7 ⟨rfl, hb7⟩; have hb17 := hb16.trans (hb7.mono hb16.size)))
      | (go_at_call 19; refine (h3 _).mono ?_; rintro e w4 ⟨rfl, hb4⟩; have hb14 := hb13.trans (hb4.mono hb13.size))
      | (go_at_call 20; refine (h4 _).mono ?_; rintro e w5 ⟨rfl, hb5⟩; have hb15 := hb14.trans (hb5.mono hb14.size))
      | (go_at_call 15; refine (h7 _ hb17).mono ?_; rintro e w8 ⟨rfl, hb8⟩))
    go_ret
    exact ⟨rfl, hb17.trans (hb8.mono hb17.size)⟩
end Go.Proofs.YtedcleobhdjhaaaDoor
