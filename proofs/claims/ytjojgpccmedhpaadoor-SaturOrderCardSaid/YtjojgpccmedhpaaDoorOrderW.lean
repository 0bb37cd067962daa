/- The walk of the law SaturOrder at this translation. -/
import Derived.Test.YtjojgpccmedhpaaDoorSumsW
import Derived.Test.YtjojgpccmedhpaaDoorMask
namespace Go.Proofs.YtjojgpccmedhpaaDoor
open Go.RowKit
set_option linter.unusedVariables false
set_option linter.unusedSimpArgs false
theorem add_nn (a b most : Int) (w : World) (a0 : 0 ≤ a) (a1 : a ≤ 4398046511104) (b0 : 0 ≤ b) (b1 : b ≤ 4398046511104) (h0 : 0 ≤ most) (h1 : most ≤ 4398046511104) :
    Calls Tryd.prog 8 #[.int .i64 a, .int .i64 b, .int .i64 most] w fun e w' => e = .returned (.tuple #[.int .i64 (satN (a + b) most), .bool (satF (a + b) most)]) ∧ w = w' := by
  have h := add_any a b most w (by omega) (by omega) (by omega) (by omega) (by omega) (by omega)
  rw [nat0_of a a0, nat0_of b b0, nat0_of most h0] at h
  exact h
theorem sat_bd (x m : Int) (h0 : 0 ≤ x) (h1 : 0 ≤ m) : 0 ≤ satN x m ∧ satN x m ≤ m ∧ satN x m ≤ x := by unfold satN; split <;> omega
/-- What the sums say of each other. -/
theorem order_facts (A B C M : Int) (a0 : 0 ≤ A) (b0 : 0 ≤ B) (c0 : 0 ≤ C) (m0 : 0 ≤ M) :
    satN (A + satN (B + C) M) M = satN (satN (A + B) M + C) M ∧ (satF (A + B) M || satF (satN (A + B) M + C) M) = (satF (B + C) M || satF (A + satN (B + C) M) M) ∧
      satN (A + B) M ≤ satN (satN (A + B) M + C) M ∧ (A ≤ satN (A + B) M ∨ M ≤ satN (A + B) M) := by
  unfold satN satF
  by_cases h1 : M < A + B <;> by_cases h2 : M < B + C <;> simp only [h1, h2, if_true, if_false, decide_true, decide_false, Bool.true_or, Bool.false_or]
  · by_cases h3 : M < M + C <;> by_cases h4 : M < A + M <;> simp [h3, h4] <;> omega
  · have h4 : M < A + (B + C) := by omega
    by_cases h3 : M < M + C <;> simp [h3, h4] <;> omega
  · have h4 : M < A + B + C := by omega
    by_cases h3 : M < A + M <;> simp [h3, h4] <;> omega
  · by_cases h3 : M < A + B + C
    · have h4 : M < A + (B + C) := by omega
      simp [h3, h4]; omega
    · have h4 : ¬ M < A + (B + C) := by omega
      simp [h3, h4]; omega
set_option maxHeartbeats 2000000 in
theorem saturOrder_walk (a b c most : Int) (wa : (Lit.int .i64 a).wf = true) (wb : (Lit.int .i64 b).wf = true) (wc : (Lit.int .i64 c).wf = true) (wm : (Lit.int .i64 most).wf = true) (W : World) (hg : 2 < W.heap.size) (hT : TabAt 2 Lib.deBruijn64tab W) :
    Calls Tryd.prog 6 #[.int .i64 a, .int .i64 b, .int .i64 c, .int .i64 most] W fun e w' => e = .returned (.bool true) ∧ Below W.heap.size W w' := by
  have ea := i64_mask40 a
  have eb := i64_mask40 b
  have ec := i64_mask40 c
  have em := i64_mask41 most
  obtain ⟨A, hA, a0, a1⟩ : ∃ A, a % 1099511627776 = A ∧ 0 ≤ A ∧ A ≤ 1099511627775 := ⟨_, rfl, by omega, by omega⟩
  obtain ⟨B, hB, b0, b1⟩ : ∃ A, b % 1099511627776 = A ∧ 0 ≤ A ∧ A ≤ 1099511627775 := ⟨_, rfl, by omega, by omega⟩
  obtain ⟨C, hC, c0, c1⟩ : ∃ A, c % 1099511627776 = A ∧ 0 ≤ A ∧ A ≤ 1099511627775 := ⟨_, rfl, by omega, by omega⟩
  obtain ⟨M, hM, m0, m1⟩ : ∃ A, most % 2199023255552 = A ∧ 0 ≤ A ∧ A ≤ 2199023255551 := ⟨_, rfl, by omega, by omega⟩
  rw [hA] at ea
  rw [hB] at eb
  rw [hC] at ec
  rw [hM] at em
  clear hA hB hC hM wa wb wc wm
  obtain ⟨f1, f2, f3, f4⟩ := order_facts A B C M a0 b0 c0 m0
  obtain ⟨x0, x1, x2⟩ := sat_bd (A + B) M (by omega) m0
  obtain ⟨r0, r1, r2⟩ := sat_bd (B + C) M (by omega) m0
  have k1 := fun w => add_nn A B M w a0 (by omega) b0 (by omega) m0 (by omega)
  have k2 := fun w => add_nn B A M w b0 (by omega) a0 (by omega) m0 (by omega)
  rw [Int.add_comm B A] at k2
  have k3 := fun w => add_nn (satN (A + B) M) C M w x0 (by omega) c0 (by omega) m0 (by omega)
  have k4 := fun w => add_nn B C M w b0 (by omega) c0 (by omega) m0 (by omega)
  have k5 := fun w => add_nn A (satN (B + C) M) M w a0 (by omega) r0 (by omega) m0 (by omega)
  rw [f1] at k5
  generalize satN (satN (A + B) M + C) M = L at *
  generalize satF (satN (A + B) M + C) M = H at *
  generalize satF (A + satN (B + C) M) M = J at *
  generalize satN (A + B) M = X at *
  generalize satF (A + B) M = F at *
  generalize satN (B + C) M = R at *
  generalize satF (B + C) M = I at *
  clear f1 x1 x2 r1 r2
  have hk := fun (w : World) (h : Below W.heap.size W w) => known_any w (Nat.lt_of_lt_of_le hg h.size) (tab_below hT hg h)
  clear hT
  have hmin : ¬ X < min A M := by omega
  have hL : ¬ L < X := by omega
  clear f4 f3
  cases F <;> cases H <;> cases I <;> cases J <;> simp at f2
  all_goals
    go_enter Tryd.func6, Tryd.ntmps6
    go_wp2_with (first
      | (go_at_call 8; ((first | (with_reducible refine (k1 _).mono ?_) | (with_reducible refine (k2 _).mono ?_) | (with_reducible refine (k3 _).mono ?_) | (with_reducible refine (k4 _).mono ?_) | (with_reducible refine (k5 _).mono ?_)); rintro e w' ⟨rfl, rfl⟩))
      | (go_at_call 12; refine (hk _ (Below.refl _ _)).mono ?_; rintro e w2 ⟨rfl, hb2⟩))
    go_ret
    exact ⟨rfl, hb2⟩
end Go.Proofs.YtjojgpccmedhpaaDoor
