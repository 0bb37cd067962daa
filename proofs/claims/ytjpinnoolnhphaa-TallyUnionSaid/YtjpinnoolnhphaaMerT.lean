/- Facts on sums of tallies: plain numbers. -/
import Derived.Test.YtjpinnoolnhphaaTally
namespace Go.Proofs.Ytjpinnoolnhphaa
open Go.RowKit
set_option linter.unusedVariables false
set_option linter.unusedSimpArgs false
theorem val_ok {T I : Int} (h : valT T I = 0) : 0 ≤ I ∧ I ≤ T ∧ T ≤ 4294967295 := by
  unfold valT at h
  split at h <;> omega
theorem val_mk {T I : Int} (h0 : 0 ≤ I) (h1 : I ≤ T) (h2 : T ≤ 4294967295) : valT T I = 0 := by
  unfold valT
  rw [if_neg (by omega)]
theorem val_01 (T I : Int) : valT T I = 0 ∨ valT T I = 5 := by
  unfold valT
  split <;> simp
theorem sumT_eq {T U : Int} (hT : 0 ≤ T) (hU : 0 ≤ U) : sumT T U = min (T + U) 4294967295 := by
  unfold sumT satN nat0
  split <;> omega
theorem sumF_eq {T U : Int} (hT : 0 ≤ T) (hU : 0 ≤ U) : sumF T U = decide (4294967295 < T + U) := by
  unfold sumF satF nat0
  have a : max T 0 = T := by omega
  have b : max U 0 = U := by omega
  rw [a, b]
theorem mer_eq {T I U J : Int} {s r : Bool} (h1 : valT T I = 0) (h2 : valT U J = 0) :
    merT T I s U J r = (min (T + U) 4294967295, min (I + J) 4294967295, s || r || decide (4294967295 < T + U) || decide (4294967295 < I + J), 0) := by
  obtain ⟨a, b, c⟩ := val_ok h1
  obtain ⟨a', b', c'⟩ := val_ok h2
  unfold merT
  rw [if_neg (by omega), if_neg (by omega), sumT_eq (by omega) (by omega), sumT_eq a a', sumF_eq (by omega) (by omega), sumF_eq a a']
theorem ins_eq {T I x : Int} {s : Bool} (h1 : valT T I = 0) (hx : 1 ≤ x) :
    insT T I s 0 x = (min (T + x) 4294967295, min (I + 1) 4294967295, s || decide (4294967295 < T + x) || decide (4294967295 < I + 1), 0) := by
  obtain ⟨a, b, c⟩ := val_ok h1
  unfold insT
  rw [if_neg (by omega), if_neg (by omega), sumT_eq (by omega) (by omega), sumT_eq a (by omega), sumF_eq (by omega) (by omega), sumF_eq a (by omega), Bool.or_false]
theorem min_val {T I : Int} (h0 : 0 ≤ I) (h1 : I ≤ T) : valT (min T 4294967295) (min I 4294967295) = 0 := val_mk (by omega) (by omega) (by omega)
theorem mer_bd (T I U J : Int) (s r : Bool) : (-9223372036854775808 ≤ (merT T I s U J r).1 ∧ (merT T I s U J r).1 ≤ 9223372036854775807) ∧ (-9223372036854775808 ≤ (merT T I s U J r).2.1 ∧ (merT T I s U J r).2.1 ≤ 9223372036854775807) := by
  rcases val_01 T I with h | h
  · rcases val_01 U J with h' | h'
    · obtain ⟨a, b, c⟩ := val_ok h
      obtain ⟨a', b', c'⟩ := val_ok h'
      rw [mer_eq h h']
      dsimp only
      omega
    · unfold merT
      rw [h, h', if_neg (by decide), if_pos (by decide)]
      dsimp only
      omega
  · unfold merT
    rw [h, if_pos (by decide)]
    dsimp only
    omega
/-- Merging is associative. -/
theorem mer_assoc {T I U J V K : Int} {s r t : Bool} (h1 : valT T I = 0) (h2 : valT U J = 0) (h3 : valT V K = 0) :
    (merT T I s U J r).2.2.2 = 0 ∧ (merT U J r V K t).2.2.2 = 0 ∧
      (merT (merT T I s U J r).1 (merT T I s U J r).2.1 (merT T I s U J r).2.2.1 V K t).2.2.2 = 0 ∧
      merT (merT T I s U J r).1 (merT T I s U J r).2.1 (merT T I s U J r).2.2.1 V K t = merT T I s (merT U J r V K t).1 (merT U J r V K t).2.1 (merT U J r V K t).2.2.1 := by
  obtain ⟨a, b, c⟩ := val_ok h1
  obtain ⟨a', b', c'⟩ := val_ok h2
  obtain ⟨a2, b2, c2⟩ := val_ok h3
  rw [mer_eq h1 h2, mer_eq h2 h3]
  dsimp only
  rw [mer_eq (min_val (by omega) (by omega)) h3, mer_eq h1 (min_val (by omega) (by omega))]
  refine ⟨rfl, rfl, rfl, ?_⟩
  refine Prod.ext (by dsimp only; omega) (Prod.ext (by dsimp only; omega) (Prod.ext ?_ rfl))
  dsimp only
  rw [Bool.eq_iff_iff]
  simp only [Bool.or_eq_true, decide_eq_true_eq]
  constructor
  · rintro ((((((h | h) | h) | h) | h) | h) | h)
    · simp [h]
    · simp [h]
    all_goals first
      | (simp [h]; done)
      | (by_cases p : 4294967295 < U + V
         · simp [p]
         · by_cases q : 4294967295 < J + K
           · simp [q]
           · have : 4294967295 < T + min (U + V) 4294967295 ∨ 4294967295 < I + min (J + K) 4294967295 := by omega
             rcases this with h | h <;> simp [h])
  · rintro (((h | (((h | h) | h) | h)) | h) | h)
    all_goals first
      | (simp [h]; done)
      | (by_cases p : 4294967295 < T + U
         · simp [p]
         · by_cases q : 4294967295 < I + J
           · simp [q]
           · have : 4294967295 < min (T + U) 4294967295 + V ∨ 4294967295 < min (I + J) 4294967295 + K := by omega
             rcases this with h | h <;> simp [h])
end Go.Proofs.Ytjpinnoolnhphaa
