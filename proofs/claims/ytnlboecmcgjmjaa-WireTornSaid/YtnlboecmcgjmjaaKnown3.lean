/- The contract of sketchstorelaw3.known: the chapter's examples come out as the chapter says. -/
import Derived.Test.YtnlboecmcgjmjaaRUnframe
import Derived.Lib.SlBytesConst
namespace Go.Proofs.Ytnlboecmcgjmjaa
open Go.RowKit
set_option linter.unusedVariables false
set_option linter.unusedSimpArgs false
theorem k_enc (n : Int) (C : List Int) (w : World) (n0 : -9223372036854775808 ≤ n) (n1 : n ≤ 9223372036854775807) (he : encE n = 0) (hb : encB n = C) :
    Calls Try.prog 11 #[.int .i64 n] w fun e w' => ∃ v, e = .returned (.tuple #[v, .int .i64 0]) ∧ Own w.heap.size C v w' ∧ Below w.heap.size w w' := by
  have := encUint_any n w n0 n1
  rw [he, hb] at this
  exact this
/-- A literal's row, whatever its mark. -/
theorem Rd.lit {C : List Int} (hy : Byt C) (w : World) (hm : C.length ≤ maxLen) (fr : Nat × Nat) : Rd C (.slice (some ⟨w.heap.size, 0, none⟩) C.length C.length) (w.alloc (.cells (cells8 C).toArray 5 fr)) := by
  refine ⟨hy, _, _, rfl, Nat.le_refl _, hm, fun hp => ⟨w.heap.size, 0, rfl, by simp, fun j hj => ?_⟩⟩
  rw [Nat.zero_add, cell_of_row _ w.heap.size j (cells8 C).toArray 5 fr (Go.heap_alloc_new w _), List.getElem?_toArray]
  exact cells8_at hj
set_option maxRecDepth 100000 in
set_option maxHeartbeats 1000000 in
theorem known_any (w : World) : Calls Try.prog 10 #[] w fun e w' => e = .returned (.bool true) ∧ Below w.heap.size w w' := by
  have h1 := fun w => k_enc 248 [248, 248] w (by decide) (by decide) (by decide +kernel) (by decide +kernel)
  have h2 := fun w => k_enc 256 [249, 1, 0] w (by decide) (by decide) (by decide +kernel) (by decide +kernel)
  have e1 : strOfNums [248, 248] = ⟨#[248, 248]⟩ := by decide +kernel
  have e2 : strOfNums [249, 1, 0] = ⟨#[249, 1, 0]⟩ := by decide +kernel
  have ha : ((adlerN [97, 98, 99] : Nat) : Int) = 38600999 := by decide +kernel
  have h3 := fun w : World => sum_any [97, 98, 99] _ (w.alloc (.cells #[.int .u8 97, .int .u8 98, .int .u8 99] 5 (3, 4))) (Rd.lit (C := [97, 98, 99]) (by intro n hn; simp at hn; omega) w (by simp [maxLen]) (3, 4))
  rw [ha] at h3
  have hcs := fun (w : World) (C : Array Value) (n c : Nat) => Lib.run_convert_bytes_const (P := Try.prog) w 24 5 C n c Try.underlying24 Try.underlying5
  go_enter Try.func10, Try.ntmps10
  go_wp2_with (first
    | (go_at_call 11; (with_reducible refine (h1 _).mono ?_); rintro e w1 ⟨v1, rfl, ho1, hb1⟩)
    | (go_at_call 11; (with_reducible refine (h2 _).mono ?_); rintro e w2 ⟨v2, rfl, ho2, hb2⟩; obtain ⟨a1, p1, rfl⟩ := ho1.shape; obtain ⟨a2, p2, rfl⟩ := ho2.shape; have c1 : (convert 24 9 (.slice a1 2 p1)).run Try.prog w2 = .ok (.string ⟨#[248, 248]⟩) w2 := e1 ▸ (ho1.below hb2).rd.conv; have c2 : (convert 24 9 (.slice a2 3 p2)).run Try.prog w2 = .ok (.string ⟨#[249, 1, 0]⟩) w2 := e2 ▸ ho2.rd.conv; clear h1 h2 ho1 ho2)
    | (go_at_call 27; refine (h3 _).mono ?_; rintro e w' ⟨rfl, rfl⟩))
  go_ret
  exact ⟨rfl, (hb1.trans (hb2.mono hb1.size)).alloc (Nat.le_trans hb1.size hb2.size) _⟩
end Go.Proofs.Ytnlboecmcgjmjaa
