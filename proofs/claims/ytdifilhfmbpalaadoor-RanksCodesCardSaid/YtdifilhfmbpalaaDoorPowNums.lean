/- Plain numbers: the exponents of the powers of two whose sum is a number, found bit by bit or lowest bit first. No program. -/
import Derived.WalkKit
import Derived.Lib.TrailingZeros
namespace Go.Proofs.YtdifilhfmbpalaaDoor
open Go.RowKit
set_option linter.unusedVariables false
set_option linter.unusedSimpArgs false
/-- The exponents below c of the powers of two in r, ascending. -/
def pows (r c : Nat) : List Nat := (List.range c).filter fun i => r.testBit i
theorem pows_zero (r : Nat) : pows r 0 = [] := rfl
theorem pows_succ_hit {r c : Nat} (h : r.testBit c = true) : pows r (c + 1) = pows r c ++ [c] := by
  simp [pows, List.range_succ, h]
theorem pows_succ_miss {r c : Nat} (h : r.testBit c = false) : pows r (c + 1) = pows r c := by
  simp [pows, List.range_succ, h]
theorem pows_le (r c : Nat) : (pows r c).length ≤ c := by
  have := List.length_filter_le (fun i => r.testBit i) (List.range c)
  simpa [pows] using this
theorem pows_gap {r c : Nat} : ∀ d, (∀ i, c ≤ i → i < c + d → r.testBit i = false) → pows r (c + d) = pows r c
  | 0, _ => rfl
  | d + 1, h => by
    rw [← Nat.add_assoc, pows_succ_miss (h (c + d) (by omega) (by omega))]
    exact pows_gap d fun i h1 h2 => h i h1 (by omega)
theorem pows_mem {r c i : Nat} (h : i ∈ pows r c) : i < c := by
  simp [pows] at h; exact h.1
/-- Without the bits below c. -/
def above (r c : Nat) : Nat := r / 2 ^ c * 2 ^ c
theorem above_bit (r c i : Nat) : (above r c).testBit i = (decide (c ≤ i) && r.testBit i) := by
  unfold above
  rw [Nat.testBit_mul_two_pow]
  by_cases h : c ≤ i
  · simp [h, Nat.testBit_div_two_pow, Nat.add_sub_cancel' h, Nat.sub_add_cancel h]
  · simp [h]
theorem above_zero (r : Nat) : above r 0 = r := by simp [above]
theorem above_le (r c : Nat) : above r c ≤ r := Nat.div_mul_le_self _ _
/-- Striking the lowest bit. -/
theorem strike (k m : Nat) : (2 ^ k * (2 * m + 1)) &&& (2 ^ k * (2 * m + 1) - 1) = 2 ^ k * (2 * m) := by
  have hp : 0 < 2 ^ k := Nat.two_pow_pos k
  have e : 2 ^ k * (2 * m + 1) - 1 = 2 ^ k * (2 * m) + (2 ^ k - 1) := by
    rw [Nat.mul_add, Nat.mul_one]; omega
  rw [e]
  apply Nat.eq_of_testBit_eq
  intro i
  rw [Nat.testBit_and, Nat.testBit_two_pow_mul_add _ (by omega), Nat.mul_comm (2 ^ k), Nat.mul_comm (2 ^ k), Nat.testBit_mul_two_pow, Nat.testBit_mul_two_pow]
  by_cases hi : i < k
  · have : ¬ k ≤ i := by omega
    simp [hi, this]
  · have hk : k ≤ i := by omega
    simp only [hi, hk, decide_true, Bool.true_and, if_false]
    by_cases h0 : i - k = 0
    · rw [h0]; simp [Nat.testBit_zero]
    · obtain ⟨j, hj⟩ : ∃ j, i - k = j + 1 := ⟨i - k - 1, by omega⟩
      rw [hj, Nat.testBit_succ, Nat.testBit_succ]
      have d1 : (2 * m + 1) / 2 = m := by omega
      have d2 : 2 * m / 2 = m := by omega
      rw [d1, d2, Bool.and_self]
/-- One round of the search by lowest bits. -/
theorem lowest_step {r c : Nat} (hr : r < 9223372036854775808) (hc : c ≤ 63) (h0 : 0 < above r c) :
    ∃ k, Lib.ctz 64 (above r c) = k ∧ k < 63 ∧ above r c &&& (above r c - 1) = above r (k + 1) ∧ above r (k + 1) < above r c ∧ pows r (k + 1) = pows r c ++ [k] := by
  have hle := above_le r c
  have hlt : above r c < 2 ^ 64 := by omega
  have hz : Lib.ctz 64 (above r c) = Lib.ctzFrom 64 (above r c) := by unfold Lib.ctz; rw [if_neg (by omega)]
  obtain ⟨m, hm, hk⟩ := Lib.ctzFrom_spec 64 (above r c) h0 hlt
  rw [← hz] at hm hk
  generalize Lib.ctz 64 (above r c) = k at *
  have hp : 0 < 2 ^ k := Nat.two_pow_pos k
  have hbit : ∀ i, (above r c).testBit i = (decide (k ≤ i) && (2 * m + 1).testBit (i - k)) := fun i => by
    rw [hm, Nat.mul_comm, Nat.testBit_mul_two_pow]
  have hbk : (above r c).testBit k = true := by rw [hbit]; simp [Nat.testBit_zero]
  have hck : c ≤ k ∧ r.testBit k = true := by
    rw [above_bit] at hbk; simpa using hbk
  have hk63 : k < 63 := by
    apply Nat.lt_of_not_le
    intro h
    have h1 : 2 ^ 63 ≤ 2 ^ k := Nat.pow_le_pow_right (by decide) h
    have h2 : 2 ^ k ≤ 2 ^ k * (2 * m + 1) := Nat.le_mul_of_pos_right _ (by omega)
    have h3 : 2 ^ k * (2 * m + 1) = above r c := hm.symm
    have h4 : (2 : Nat) ^ 63 = 9223372036854775808 := by decide
    omega
  refine ⟨k, rfl, hk63, ?_, ?_, ?_⟩
  · have hs := strike k m
    rw [← hm] at hs
    rw [hs]
    apply Nat.eq_of_testBit_eq
    intro i
    have hi := hbit i
    rw [above_bit] at hi ⊢
    rw [Nat.mul_comm, Nat.testBit_mul_two_pow]
    by_cases h1 : k + 1 ≤ i
    · have h2 : k ≤ i := by omega
      have h3 : c ≤ i := by omega
      simp only [h1, h2, h3, decide_true, Bool.true_and] at hi ⊢
      rw [hi]
      obtain ⟨j, hj⟩ : ∃ j, i - k = j + 1 := ⟨i - k - 1, by omega⟩
      rw [hj, Nat.testBit_succ, Nat.testBit_succ]
      have d1 : (2 * m + 1) / 2 = m := by omega
      have d2 : 2 * m / 2 = m := by omega
      rw [d1, d2]
    · simp only [h1, decide_false, Bool.false_and]
      by_cases h2 : k ≤ i
      · have h3 : i - k = 0 := by omega
        simp [h3, Nat.testBit_zero]
      · simp [h2]
  · have e1 : above r (k + 1) ≤ above r c - 2 ^ k := by
      have hs := strike k m
      have hsub : 2 ^ k * (2 * m + 1) - 2 ^ k = 2 ^ k * (2 * m) := by rw [Nat.mul_add, Nat.mul_one]; omega
      have hab : above r (k + 1) = 2 ^ k * (2 * m) := by
        apply Nat.eq_of_testBit_eq
        intro i
        have hi := hbit i
        rw [above_bit] at hi ⊢
        rw [Nat.mul_comm, Nat.testBit_mul_two_pow]
        by_cases h1 : k + 1 ≤ i
        · have h2 : k ≤ i := by omega
          have h3 : c ≤ i := by omega
          simp only [h1, h2, h3, decide_true, Bool.true_and] at hi ⊢
          rw [hi]
          obtain ⟨j, hj⟩ : ∃ j, i - k = j + 1 := ⟨i - k - 1, by omega⟩
          rw [hj, Nat.testBit_succ, Nat.testBit_succ]
          have d1 : (2 * m + 1) / 2 = m := by omega
          have d2 : 2 * m / 2 = m := by omega
          rw [d1, d2]
        · simp only [h1, decide_false, Bool.false_and]
          by_cases h2 : k ≤ i
          · have h3 : i - k = 0 := by omega
            simp [h3, Nat.testBit_zero]
          · simp [h2]
      rw [hab, hm, hsub]; exact Nat.le_refl _
    omega
  · have hd : k = c + (k - c) := by omega
    rw [pows_succ_hit hck.2]
    congr 1
    rw [hd]
    apply pows_gap
    intro i h1 h2
    have hi := hbit i
    rw [above_bit] at hi
    have h3 : ¬ k ≤ i := by omega
    simpa [h1, h3] using hi
/-- No bit is left: the list is whole. -/
theorem pows_done {r c : Nat} (hr : r < 9223372036854775808) (hc : c ≤ 63) (h0 : above r c = 0) : pows r c = pows r 63 := by
  have hd : 63 = c + (63 - c) := by omega
  rw [hd]
  symm
  apply pows_gap
  intro i h1 _
  have := above_bit r c i
  rw [h0] at this
  simpa [h1] using this
end Go.Proofs.YtdifilhfmbpalaaDoor
