/- The walk of the law TallyMerges. -/
import Derived.Test.YtjpinnoolnhphaaMade6
namespace Go.Proofs.Ytjpinnoolnhphaa
open Go.RowKit
set_option linter.unusedVariables false
set_option linter.unusedSimpArgs false
set_option maxRecDepth 100000 in
set_option maxHeartbeats 2000000 in
theorem tallyMerges_walk (a b c d : Int) (W : World) (wa : (Lit.int .i64 a).wf = true) (wb : (Lit.int .i64 b).wf = true) (wc : (Lit.int .i64 c).wf = true) (wd : (Lit.int .i64 d).wf = true) :
    Calls Try.prog 4 #[.int .i64 a, .int .i64 b, .int .i64 c, .int .i64 d] W fun e w' => e = .returned (.bool true) ∧ Below W.heap.size W w' := by
  have h1 := fun w => made_any a b w (wf_bd wa).1 (wf_bd wa).2 (wf_bd wb).1 (wf_bd wb).2
  have h2 := fun w => made_any c d w (wf_bd wc).1 (wf_bd wc).2 (wf_bd wd).1 (wf_bd wd).2
  clear wa wb wc wd
  go_enter Try.func4, Try.ntmps4
  go_wp2_with fail
  go_at_call 8
  refine (h1 _).mono ?_
  rintro e w2 ⟨T, I, s, ⟨T0, T1⟩, ⟨I0, I1⟩, rfl, B2⟩
  clear h1
  go_wp2_with fail
  go_at_call 8
  refine (h2 _).mono ?_
  rintro e w3 ⟨U, J, r, ⟨U0, U1⟩, ⟨J0, J1⟩, rfl, b3⟩
  have B3 := bgo B2 b3
  clear h2 B2 b3
  have h1 := fun w => tmer_any T I U J s r w T0 T1 I0 I1 U0 U1 J0 J1
  have h2 := fun w => rtmer_any T I U J s r w T0 T1 I0 I1 U0 U1 J0 J1
  generalize (merT T I s U J r).1 = M1 at *
  generalize (merT T I s U J r).2.1 = M2 at *
  generalize (merT T I s U J r).2.2.1 = M3 at *
  generalize (merT T I s U J r).2.2.2 = M4 at *
  go_wp2_with (first
    | (go_at_call 15; ((with_reducible refine (h1 _).mono ?_); rintro e w5 ⟨rfl, hb5⟩; have B5 := bgo (bal (bal B3 _) _) hb5; obtain ⟨hc5, hf5⟩ := bcell hb5; obtain ⟨hx5, hy5⟩ := room1 (n := w3.heap.size) (m := w5.heap.size) (by have := hb5.size; simp at this; omega); clear hb5))
    | (go_at_call 16; ((with_reducible refine (h2 _).mono ?_); rintro e w6 ⟨rfl, hb6⟩; have B6 := bgo (bal B5 _) hb6; obtain ⟨hc6, hf6⟩ := bcell hb6; have hx6 : w5.heap.size < w6.heap.size := (by have := hb6.size; simp at this; omega); clear hb6))
    | (go_at_call 14; ((with_reducible refine (known_any _).mono ?_); rintro e w7 ⟨rfl, hb7⟩; have B7 := bgo (bal B6 _) hb7; clear hb7)))
  all_goals go_ret
  all_goals exact ⟨rfl, B7⟩
end Go.Proofs.Ytjpinnoolnhphaa
