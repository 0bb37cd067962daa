/- The contract of sketchstorelaw14.known. -/
import Derived.Test.YtbppdbfjhdhehaaPgE
import Derived.Test.YtbppdbfjhdhehaaRdIn
namespace Go.Proofs.Ytbppdbfjhdhehaa
open Go.RowKit
set_option linter.unusedVariables false
set_option linter.unusedSimpArgs false
/-- A literal's row, whatever its mark. -/
theorem Rd.lit {C : List Int} (hy : Byt C) (w : World) (hm : C.length ≤ maxLen) (fr : Nat × Nat) : Rd C (.slice (some ⟨w.heap.size, 0, none⟩) C.length C.length) (w.alloc (.cells (cells8 C).toArray 5 fr)) := by
  refine ⟨hy, _, _, rfl, Nat.le_refl _, hm, fun hp => ⟨w.heap.size, 0, rfl, by simp, fun j hj => ?_⟩⟩
  rw [Nat.zero_add, cell_of_row _ w.heap.size j (cells8 C).toArray 5 fr (Go.heap_alloc_new w _), List.getElem?_toArray]
  exact cells8_at hj
set_option maxRecDepth 100000 in
set_option maxHeartbeats 1000000 in
theorem known14_any (w : World) : Calls Try.prog 7 #[] w fun e w' => e = .returned (.bool true) ∧ Below w.heap.size w w' := by
  have hs := psplit_any [1, 2, 3, 4, 5] 2 (.slice (some ⟨w.heap.size, 0, none⟩) 5 5) (w.alloc (.cells #[.int .u8 1, .int .u8 2, .int .u8 3, .int .u8 4, .int .u8 5] 5)) (Rd.lit (C := [1, 2, 3, 4, 5]) (by intro n hn; simp at hn; omega) w (by simp [maxLen]) (0, 0)) (by decide) (by decide) (by decide)
  rw [show splL [1, 2, 3, 4, 5] 2 = [[1, 2], [3, 4], [5]] by decide, show splE 2 = 0 by decide] at hs
  have hc := fun w => pcount_any 5 2 w (by decide) (by decide) (by decide) (by decide)
  rw [show cntV 5 2 = 3 by decide, show cntE 5 2 = 0 by decide] at hc
  have HJ := Lib.hid (fun v w h => pjoin_any [[1, 2], [3, 4], [5]] v w h (by decide) (by decide))
  go_enter Try.func7, Try.ntmps7
  go_wp2_with (first
    | (go_at_call 8; refine hs.mono ?_; rintro e w1 ⟨v1, rfl, o1, b1⟩; have O1 := Lib.hid o1; have B1 := Lib.hid ((Go.Proofs.Ytbppdbfjhdhehaa.b1 _).trans (b1.mono (by simp))); obtain ⟨a1, c1, rfl⟩ := o1.shape; obtain ⟨b, off, u, m, c, rfl, -, hb, hcell, -, rfl⟩ := o1.at_ (k := 2) (by decide); clear o1 b1)
    | (go_at_call 10; refine (hc _).mono ?_; rintro e w' ⟨rfl, rfl⟩)
    | (go_at_call 13; refine (HJ.out _ _ O1.out).mono ?_; rintro e w2 ⟨v2, rfl, o2, b2⟩; obtain ⟨a2, c2, rfl⟩ := rd_shape o2; have B2 := Lib.hid (bgo B1.out b2); clear o2 b2))
  go_ret
  exact ⟨rfl, B2.out⟩
end Go.Proofs.Ytbppdbfjhdhehaa
