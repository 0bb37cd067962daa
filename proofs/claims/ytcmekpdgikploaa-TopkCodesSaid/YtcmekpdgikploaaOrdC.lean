/- The contract of topk.compare. -/
import Derived.Test.YtcmekpdgikploaaOrdE
namespace Go.Proofs.Ytcmekpdgikploaa
open Go.RowKit
set_option linter.unusedVariables false
set_option linter.unusedSimpArgs false
set_option maxRecDepth 100000 in
set_option maxHeartbeats 4000000 in
theorem compare_any (x y : Ent) (w : World) : Calls Try.prog 35 #[.agg #[.string x.k, .int .i64 x.c, .int .i64 x.e], .agg #[.string y.k, .int .i64 y.c, .int .i64 y.e]] w fun e w' =>
      e = .returned (.int .i64 (cmpE x y)) ∧ Below w.heap.size w w' := by
  have h1 := fun w => cmpi_any y.c x.c w
  have h2 := fun w => scmp_any x.k y.k w
  have h3 := fun g w h0 h1 => or_any (cmpI y.c x.c) (Lib.compareBytes x.k.data.toList y.k.data.toList) g w h0 h1
  rw [or2_cmp] at h3
  obtain ⟨k, c, e⟩ := x
  obtain ⟨k', c', e'⟩ := y
  dsimp only at h1 h2 h3 ⊢
  generalize cmpE ⟨k, c, e⟩ ⟨k', c', e'⟩ = R at *
  generalize cmpI c' c = p at *
  generalize Lib.compareBytes k.data.toList k'.data.toList = q at *
  go_enter Try.func35, Try.ntmps35
  go_wp2
  go_region_law (go_simp; first
    | (go_at_call 66; refine (h1 _).mono ?_; rintro e w' ⟨rfl, rfl⟩)
    | (go_at_call 67; refine (h2 _).mono ?_; rintro e w' ⟨rfl, rfl⟩)
    | (go_at_call 65; refine (h3 _ _ (by go_simp) (by go_simp)).mono ?_; rintro e w' ⟨rfl, rfl⟩))
  all_goals
    go_wp2
    go_ret
    exact ⟨rfl, by first | exact bal (b2 _ _) _ | exact (bal (b2 _ _) _).drew | exact (bal (b2 _ _) _).drewN _⟩
end Go.Proofs.Ytcmekpdgikploaa
