/- The walk of the law SaturSums at this translation. -/
import Derived.Test.YtjojgpccmedhpaaDoorKnown1
import Derived.Test.YtjojgpccmedhpaaDoorRefSat
namespace Go.Proofs.YtjojgpccmedhpaaDoor
open Go.RowKit
set_option linter.unusedVariables false
set_option linter.unusedSimpArgs false
/-- The table is as it was where only new memory was made. -/
theorem tab_below {g : Nat} {tab : List Nat} {w w' : World} (h : TabAt g tab w) (hg : g < w.heap.size) (hb : Below w.heap.size w w') : TabAt g tab w' := fun j hj => (hb.cell (p := ⟨g, j, none⟩) hg).trans (h j hj)
set_option maxHeartbeats 400000 in
theorem saturSums_walk (a b most : Int) (wa : (Lit.int .i64 a).wf = true) (wb : (Lit.int .i64 b).wf = true) (wm : (Lit.int .i64 most).wf = true) (W : World) (hg : 2 < W.heap.size) (hT : TabAt 2 Lib.deBruijn64tab W) :
    Calls Tryd.prog 3 #[.int .i64 a, .int .i64 b, .int .i64 most] W fun e w' => e = .returned (.bool true) ∧ Below W.heap.size W w' := by
  obtain ⟨a0, a1⟩ := wf_bd wa
  obtain ⟨b0, b1⟩ := wf_bd wb
  obtain ⟨h0, h1⟩ := wf_bd wm
  clear wa wb wm
  go_enter Tryd.func3, Tryd.ntmps3
  go_wp2_with (first
    | (go_at_call 8; refine (add_any _ _ _ _ a0 a1 b0 b1 h0 h1).mono ?_; rintro e w' ⟨rfl, rfl⟩)
    | (go_at_call 9; refine (ref_add_any _ _ _ _ a0 a1 b0 b1 h0 h1).mono ?_; rintro e w' ⟨rfl, rfl⟩)
    | (go_at_call 10; refine (mul_any _ _ _ _ a0 a1 b0 b1 h0 h1).mono ?_; rintro e w' ⟨rfl, rfl⟩)
    | (go_at_call 11; refine (ref_mul_any _ _ _ _ a0 a1 b0 b1 h0 h1).mono ?_; rintro e w1 ⟨rfl, hb1⟩)
    | (go_at_call 12; refine (known_any _ (Nat.lt_of_lt_of_le hg hb1.size) (tab_below hT hg hb1)).mono ?_; rintro e w2 ⟨rfl, hb2⟩))
  go_ret
  exact ⟨rfl, hb1.trans (hb2.mono hb1.size)⟩
end Go.Proofs.YtjojgpccmedhpaaDoor
