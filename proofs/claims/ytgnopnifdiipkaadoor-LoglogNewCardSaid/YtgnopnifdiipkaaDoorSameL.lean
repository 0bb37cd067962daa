/- The contract of the reference's SameLogLog at equal sketches. -/
import Derived.Test.YtgnopnifdiipkaaDoorLl
import Derived.Test.YtgnopnifdiipkaaDoorSameI
namespace Go.Proofs.YtgnopnifdiipkaaDoor
open Go.RowKit
set_option linter.unusedVariables false
set_option linter.unusedSimpArgs false
set_option maxRecDepth 100000 in
theorem sameL_any (c : LL) (v u : Value) (w : World) (hv : RdL c v w) (hu : RdL c u w) :
    Calls Tryd.prog 15 #[v, u] w fun e w' => e = .returned (.bool true) ∧ Below w.heap.size w w' := by
  obtain ⟨P, x, L⟩ := c
  obtain ⟨a, n, cap, rfl, hR⟩ := hv
  obtain ⟨a2, n2, cap2, rfl, hR2⟩ := hu
  dsimp only at hR hR2 ⊢
  have hs := sameI_any L (.slice a n cap) (.slice a2 n2 cap2) ((w.alloc (.cells #[.int .i64 P, .int .u64 x, .slice a n cap] 26)).alloc (.cells #[.int .i64 P, .int .u64 x, .slice a2 n2 cap2] 26)) (hR.below (b2 _ _)) (hR2.below (b2 _ _))
  clear hR hR2
  go_enter Tryd.func15, Tryd.ntmps15
  go_wp2_with (go_at_call 31; refine hs.mono ?_; rintro e w2 ⟨rfl, hb2⟩; have B2 := Lib.hid (bgo (b2 _ _) hb2); clear hb2)
  go_ret
  exact ⟨rfl, B2.out⟩
end Go.Proofs.YtgnopnifdiipkaaDoor
