/- The walk of the law SaturInverse at this translation. -/
import Derived.Test.YtjojgpccmedhpaaDoorSumsW
import Derived.Test.YtjojgpccmedhpaaDoorMask
namespace Go.Proofs.YtjojgpccmedhpaaDoor
open Go.RowKit
set_option linter.unusedVariables false
set_option linter.unusedSimpArgs false
theorem below_drewN {B : Nat} {a w : World} (h : Below B a w) (n : Nat) : Below B a (w.drewN n) := ⟨h.os, h.tape, h.output, h.size, h.block⟩
set_option maxHeartbeats 1000000 in
theorem saturInverse_walk (a b c : Int) (wa : (Lit.int .i64 a).wf = true) (wb : (Lit.int .i64 b).wf = true) (wc : (Lit.int .i64 c).wf = true) (W : World) (hg : 2 < W.heap.size) (hT : TabAt 2 Lib.deBruijn64tab W) :
    Calls Tryd.prog 7 #[.int .i64 a, .int .i64 b, .int .i64 c] W fun e w' => e = .returned (.bool true) ∧ Below W.heap.size W w' := by
  have ea := i64_mask30 a
  have eb := i64_mask30 b
  have ec := i64_mask20 c
  obtain ⟨A, hA, a0, a1⟩ : ∃ A, a % 1073741824 = A ∧ 0 ≤ A ∧ A ≤ 1073741823 := ⟨_, rfl, by omega, by omega⟩
  obtain ⟨B, hB, b0, b1⟩ : ∃ A, b % 1073741824 = A ∧ 0 ≤ A ∧ A ≤ 1073741823 := ⟨_, rfl, by omega, by omega⟩
  obtain ⟨C, hC, c0, c1⟩ : ∃ A, c % 1048576 = A ∧ 0 ≤ A ∧ A ≤ 1048575 := ⟨_, rfl, by omega, by omega⟩
  rw [hA] at ea
  rw [hB] at eb
  rw [hC] at ec
  clear hA hB hC wa wb wc
  have p0 : 0 ≤ A * B := Int.mul_nonneg a0 b0
  have p1 : A * B ≤ 1073741823 * 1073741823 := Int.mul_le_mul a1 b1 b0 (by omega)
  obtain ⟨P, hP⟩ : ∃ P, A * B = P := ⟨_, rfl⟩
  rw [hP] at p0 p1
  obtain ⟨D, hD, d0, d1⟩ : ∃ D, 1 + C = D ∧ 1 ≤ D ∧ D ≤ 1048576 := ⟨_, rfl, by omega, by omega⟩
  have q0 : 0 ≤ P / D := Int.ediv_nonneg p0 (by omega)
  have q1 : P / D ≤ P := Int.ediv_le_self D p0
  have r0 : 0 ≤ P % D := Int.emod_nonneg P (by omega)
  have k1 := fun w => muldiv_low A B D P (P / D) w hP rfl a0 (by omega) b0 (by omega) d0 (by omega) p0 (by omega) (by omega)
  have k2 := fun w => ceil_ok P D w p0 (by omega) d0 (by omega)
  have hk := fun (w : World) (h : Below W.heap.size W w) => known_any w (Nat.lt_of_lt_of_le hg h.size) (tab_below hT hg h)
  clear hT
  have hd : ¬ D = 0 := by omega
  by_cases h : 0 < P % D
  · have e : cdivN P D = P / D + 1 := by unfold cdivN; rw [if_pos h]
    rw [e] at k2
    have h2 : ¬ P % D = 0 := by omega
    have h3 : (P / D + 1 == P / D) = (P % D == 0) := by
      rw [beq_eq_false_iff_ne.2 (show P / D + 1 ≠ P / D by omega), beq_eq_false_iff_ne.2 h2]
    clear e h
    go_enter Tryd.func7, Tryd.ntmps7
    go_wp2_with (first
      | (go_at_call 13; refine (k1 _).mono ?_; rintro e w' ⟨rfl, n, rfl⟩)
      | (go_at_call 15; refine (k2 _).mono ?_; rintro e w' ⟨rfl, rfl⟩)
      | (go_at_call 12; refine (hk _ (below_drewN (Below.refl _ _) n)).mono ?_; rintro e w2 ⟨rfl, hb2⟩))
    go_ret
    exact ⟨rfl, (below_drewN (Below.refl _ _) n).trans hb2⟩
  · have e : cdivN P D = P / D := by unfold cdivN; rw [if_neg h]
    rw [e] at k2
    have h2 : P % D = 0 := by omega
    clear e h
    go_enter Tryd.func7, Tryd.ntmps7
    go_wp2_with (first
      | (go_at_call 13; refine (k1 _).mono ?_; rintro e w' ⟨rfl, n, rfl⟩)
      | (go_at_call 15; refine (k2 _).mono ?_; rintro e w' ⟨rfl, rfl⟩)
      | (go_at_call 12; refine (hk _ (below_drewN (Below.refl _ _) n)).mono ?_; rintro e w2 ⟨rfl, hb2⟩))
    go_ret
    exact ⟨rfl, (below_drewN (Below.refl _ _) n).trans hb2⟩
end Go.Proofs.YtjojgpccmedhpaaDoor
