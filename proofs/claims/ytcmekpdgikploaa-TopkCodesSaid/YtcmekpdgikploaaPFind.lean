/- The contracts of topk.Least, positions, indexOf, index.find, Find; of the reference's Least. -/
import Derived.Test.YtcmekpdgikploaaTopN
import Derived.Test.YtcmekpdgikploaaPVal
namespace Go.Proofs.Ytcmekpdgikploaa
open Go.RowKit
set_option linter.unusedVariables false
set_option linter.unusedSimpArgs false
def leastI (S : Int) (L : List Ent) : Int := if L.length = 0 ∨ (L.length : Int) ≠ S then 0 else (L.getD (L.length - 1) Ent.z).c
set_option maxRecDepth 100000 in
set_option maxHeartbeats 1000000 in
theorem pleast_any (S T : Int) (L : List Ent) (s : Bool) (a : Option Addr) (n cap : Nat) (w : World) (hr : RdE L (.slice a n cap) w) (hn : L.length ≤ 549755813888) :
    Calls Try.prog 28 #[.agg #[.int .i64 S, .int .i64 T, .slice a n cap, .bool s]] w fun e w' => e = .returned (.int .i64 (leastI S L)) ∧ Below w.heap.size w w' := by
  have hB := RdE.below hr (b1 (.cells #[.int .i64 S, .int .i64 T, .slice a n cap, .bool s] 25))
  obtain ⟨a', cap', he⟩ := hr.shape
  simp only [Value.slice.injEq] at he
  obtain ⟨rfl, rfl, rfl⟩ := he
  unfold leastI
  by_cases h0 : L.length = 0
  · rw [if_pos (.inl h0)]
    have h1 : ((L.length : Int) == 0) = true := by simp [h0]
    clear hB hr hn h0
    generalize L.length = N at *
    go_enter Try.func28, Try.ntmps28
    go_wp2
    go_ret
    exact ⟨rfl, b1 _⟩
  · have h1 : ((L.length : Int) == 0) = false := by simp only [beq_eq_false_iff_ne]; omega
    by_cases hS : (L.length : Int) = S
    · rw [if_neg (by omega)]
      subst hS
      obtain ⟨-, a1, cap1, he1, -, -, hc1⟩ := hr
      simp only [Value.slice.injEq, true_and] at he1
      obtain ⟨rfl, rfl⟩ := he1
      obtain ⟨b, off, rfl, hb, hcell⟩ := hc1 (by omega)
      have h3 := hcell (L.length - 1) (by omega)
      generalize L.getD (L.length - 1) Ent.z = X at *
      clear hcell hc1 hB
      obtain ⟨m, hm⟩ : ∃ m, L.length = m + 1 := ⟨L.length - 1, by omega⟩
      rw [hm] at hn h1 ⊢
      rw [hm, Nat.add_sub_cancel] at h3
      obtain ⟨-, c1, -⟩ := h3.below (b1 (.cells #[.int .i64 ((m : Int) + 1), .int .i64 T, .slice (some ⟨b, off, none⟩) (m + 1) cap, .bool s] 25)) hb
      clear hm h0
      have q1 : wrap64 (((m + 1 : Nat) : Int) - 1) = (m : Int) := by unfold wrap64; omega
      have q2 : wrap64 ((m : Int) + 1 - 1) = (m : Int) := by unfold wrap64; omega
      have q3 : (m : Int) < (m : Int) + 1 := by omega
      have q4 : ((m : Int) + 1 == 0) = false := by simp only [beq_eq_false_iff_ne]; omega
      have q5 : (0 : Int) ≤ (m : Int) := by omega
      have q6 : ((m : Int) < ((m + 1 : Nat) : Int)) := by omega
      go_enter Try.func28, Try.ntmps28
      go_wp2
      go_ret
      exact ⟨rfl, b1 _⟩
    · rw [if_pos (.inr hS)]
      have h2 : ((L.length : Int) == S) = false := by simp only [beq_eq_false_iff_ne]; exact hS
      have h3 : ((L.length : Int) != S) = true := by simp [bne, h2]
      clear hB hr hn h0 hS
      generalize L.length = N at *
      go_enter Try.func28, Try.ntmps28
      go_wp2
      go_ret
      exact ⟨rfl, b1 _⟩
set_option maxRecDepth 100000 in
set_option maxHeartbeats 1000000 in
theorem rleast_any (S T : Int) (L : List Ent) (s : Bool) (a : Option Addr) (n cap : Nat) (w : World) (hr : RdE L (.slice a n cap) w) (hn : L.length ≤ 549755813888) :
    Calls Try.prog 39 #[.agg #[.int .i64 S, .int .i64 T, .slice a n cap, .bool s]] w fun e w' => e = .returned (.int .i64 (leastI S L)) ∧ Below w.heap.size w w' := by
  have hB := RdE.below hr (b1 (.cells #[.int .i64 S, .int .i64 T, .slice a n cap, .bool s] 25))
  obtain ⟨a', cap', he⟩ := hr.shape
  simp only [Value.slice.injEq] at he
  obtain ⟨rfl, rfl, rfl⟩ := he
  unfold leastI
  by_cases h0 : L.length = 0
  · rw [if_pos (.inl h0)]
    have h1 : ((L.length : Int) == 0) = true := by simp [h0]
    clear hB hr hn h0
    generalize L.length = N at *
    go_enter Try.func39, Try.ntmps39
    go_wp2
    go_ret
    exact ⟨rfl, b1 _⟩
  · have h1 : ((L.length : Int) == 0) = false := by simp only [beq_eq_false_iff_ne]; omega
    by_cases hS : (L.length : Int) = S
    · rw [if_neg (by omega)]
      subst hS
      obtain ⟨-, a1, cap1, he1, -, -, hc1⟩ := hr
      simp only [Value.slice.injEq, true_and] at he1
      obtain ⟨rfl, rfl⟩ := he1
      obtain ⟨b, off, rfl, hb, hcell⟩ := hc1 (by omega)
      have h3 := hcell (L.length - 1) (by omega)
      generalize L.getD (L.length - 1) Ent.z = X at *
      clear hcell hc1 hB
      obtain ⟨m, hm⟩ : ∃ m, L.length = m + 1 := ⟨L.length - 1, by omega⟩
      rw [hm] at hn h1 ⊢
      rw [hm, Nat.add_sub_cancel] at h3
      obtain ⟨-, c1, -⟩ := h3.below (b1 (.cells #[.int .i64 ((m : Int) + 1), .int .i64 T, .slice (some ⟨b, off, none⟩) (m + 1) cap, .bool s] 25)) hb
      clear hm h0
      have q1 : wrap64 (((m + 1 : Nat) : Int) - 1) = (m : Int) := by unfold wrap64; omega
      have q2 : wrap64 ((m : Int) + 1 - 1) = (m : Int) := by unfold wrap64; omega
      have q3 : (m : Int) < (m : Int) + 1 := by omega
      have q4 : ((m : Int) + 1 == 0) = false := by simp only [beq_eq_false_iff_ne]; omega
      have q5 : (0 : Int) ≤ (m : Int) := by omega
      have q6 : ((m : Int) < ((m + 1 : Nat) : Int)) := by omega
      go_enter Try.func39, Try.ntmps39
      go_wp2
      go_ret
      exact ⟨rfl, b1 _⟩
    · rw [if_pos (.inr hS)]
      have h2 : ((L.length : Int) == S) = false := by simp only [beq_eq_false_iff_ne]; exact hS
      have h3 : ((L.length : Int) != S) = true := by simp [bne, h2]
      clear hB hr hn h0 hS
      generalize L.length = N at *
      go_enter Try.func39, Try.ntmps39
      go_wp2
      go_ret
      exact ⟨rfl, b1 _⟩
end Go.Proofs.Ytcmekpdgikploaa
