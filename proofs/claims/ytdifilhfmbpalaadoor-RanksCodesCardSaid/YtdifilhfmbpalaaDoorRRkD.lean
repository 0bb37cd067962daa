/- Levels while an item's powers are put in: pure. -/
import Derived.Test.YtdifilhfmbpalaaDoorRkA
import Derived.Test.YtdifilhfmbpalaaDoorRkU
namespace Go.Proofs.YtdifilhfmbpalaaDoor
open Go.RowKit
set_option linter.unusedVariables false
set_option linter.unusedSimpArgs false
/-- How many levels the first j powers need. -/
def topJ (P : List Nat) (j : Nat) : Nat := if j = 0 then 0 else P.getD (j - 1) 0 + 1
/-- The levels with the first j powers. -/
def insD (L : List (List ByteArray)) (k : ByteArray) (P : List Nat) (j : Nat) : List (List ByteArray) := (List.range (max L.length (topJ P j))).map fun i => L.getD i [] ++ if i ∈ P.take j then [k] else []
theorem insD_len (L : List (List ByteArray)) (k : ByteArray) (P : List Nat) (j : Nat) : (insD L k P j).length = max L.length (topJ P j) := by simp [insD]
theorem insD_at {L : List (List ByteArray)} {k : ByteArray} {P : List Nat} {j : Nat} (hP : List.Pairwise (· < ·) P) (hj : j ≤ P.length) (i : Nat) : (insD L k P j).getD i [] = L.getD i [] ++ if i ∈ P.take j then [k] else [] := by
  by_cases h : i < max L.length (topJ P j)
  · simp only [insD, List.getD, List.getElem?_map, List.getElem?_range h, Option.map_some, Option.getD_some]
  · have h1 : L.getD i [] = [] := by simp [List.getD, List.getElem?_eq_none (show L.length ≤ i by omega)]
    have h2 : (insD L k P j).getD i [] = [] := by simp [List.getD, List.getElem?_eq_none (show (insD L k P j).length ≤ i by rw [insD_len]; omega)]
    have h3 : ¬ i ∈ P.take j := fun hm => by
      obtain ⟨m, hm2, he⟩ := List.getElem_of_mem hm
      rw [List.length_take] at hm2
      have hm3 : m < j := by omega
      rw [List.getElem_take] at he
      have ht : topJ P j = P.getD (j - 1) 0 + 1 := by unfold topJ; rw [if_neg (by omega)]
      have hlast : P.getD (j - 1) 0 = P[j - 1]'(by omega) := by simp [List.getD, show j - 1 < P.length by omega]
      have hle : P[m]'(by omega) ≤ P[j - 1]'(by omega) := by
        by_cases hmj : m = j - 1
        · subst hmj; exact Nat.le_refl _
        · exact Nat.le_of_lt (List.pairwise_iff_getElem.1 hP m (j - 1) (by omega) (by omega) (by omega))
      omega
    rw [h1, h2, if_neg h3]
    rfl
theorem insD_zero (L : List (List ByteArray)) (k : ByteArray) (P : List Nat) : insD L k P 0 = L := by
  refine ext_getD (by rw [insD_len]; simp [topJ]) (fun i hi => ?_)
  have h : i < max L.length (topJ P 0) := by rw [insD_len] at hi; exact hi
  simp only [insD, List.getD, List.getElem?_map, List.getElem?_range h, Option.map_some, Option.getD_some]
  simp
theorem topJ_succ {P : List Nat} {j : Nat} : topJ P (j + 1) = P.getD j 0 + 1 := by unfold topJ; rw [if_neg (by omega), Nat.add_sub_cancel]
theorem topJ_le {P : List Nat} {j : Nat} (hP : List.Pairwise (· < ·) P) (hj : j < P.length) : topJ P j ≤ P.getD j 0 := by
  unfold topJ
  split
  · omega
  · have h1 : P.getD (j - 1) 0 = P[j - 1]'(by omega) := by simp [List.getD, show j - 1 < P.length by omega]
    have h2 : P.getD j 0 = P[j] := by simp [List.getD, hj]
    have := List.pairwise_iff_getElem.1 hP (j - 1) j (by omega) hj (by omega)
    omega
/-- Empty levels up to n. -/
def padD (D : List (List ByteArray)) (n : Nat) : List (List ByteArray) := D ++ List.replicate (n - D.length) []
theorem padD_len (D : List (List ByteArray)) (n : Nat) : (padD D n).length = max D.length n := by simp [padD]; omega
theorem padD_at (D : List (List ByteArray)) (n i : Nat) : (padD D n).getD i [] = D.getD i [] := by
  unfold padD
  simp only [List.getD]
  by_cases h : i < D.length
  · rw [List.getElem?_append_left h]
  · rw [List.getElem?_append_right (by omega), List.getElem?_eq_none (show D.length ≤ i by omega), List.getElem?_replicate]
    split <;> rfl
theorem padD_self (D : List (List ByteArray)) (n : Nat) (h : n ≤ D.length) : padD D n = D := by unfold padD; rw [show n - D.length = 0 by omega]; simp
theorem padD_succ (D : List (List ByteArray)) (n : Nat) (h : D.length ≤ n) : padD D n ++ [[]] = padD D (n + 1) := by
  unfold padD
  rw [show n + 1 - D.length = (n - D.length) + 1 by omega, List.replicate_succ', List.append_assoc]
theorem insD_succ {L : List (List ByteArray)} {k : ByteArray} {P : List Nat} {j : Nat} (hP : List.Pairwise (· < ·) P) (hj : j < P.length) :
    (padD (insD L k P j) (P.getD j 0 + 1)).set (P.getD j 0) (L.getD (P.getD j 0) [] ++ [k]) = insD L k P (j + 1) := by
  have htl := topJ_le hP hj
  have hlen : (padD (insD L k P j) (P.getD j 0 + 1)).length = max L.length (P.getD j 0 + 1) := by rw [padD_len, insD_len]; omega
  refine ext_getD (by rw [List.length_set, hlen, insD_len, topJ_succ]) (fun i hi => ?_)
  rw [List.length_set, hlen] at hi
  rw [insD_at hP (by omega)]
  have hm : ∀ x, x ∈ P.take (j + 1) ↔ x ∈ P.take j ∨ x = P.getD j 0 := fun x => by rw [take_getD (d := 0) hj]; simp
  by_cases he : P.getD j 0 = i
  · subst he
    rw [getD_set_eq (by rw [hlen]; omega), if_pos ((hm _).2 (.inr rfl))]
  · rw [getD_set_ne he, padD_at, insD_at hP (by omega)]
    by_cases h2 : i ∈ P.take j
    · rw [if_pos h2, if_pos ((hm i).2 (.inl h2))]
    · rw [if_neg h2, if_neg (fun h => ((hm i).1 h).elim h2 (fun e => he e.symm))]
/-- The level that the next power finds. -/
theorem insD_next {L : List (List ByteArray)} {k : ByteArray} {P : List Nat} {j : Nat} (hP : List.Pairwise (· < ·) P) (hj : j < P.length) : (padD (insD L k P j) (P.getD j 0 + 1)).getD (P.getD j 0) [] = L.getD (P.getD j 0) [] := by
  rw [padD_at, insD_at hP (by omega), if_neg ?_, List.append_nil]
  intro hm
  obtain ⟨m, hm2, he⟩ := List.getElem_of_mem hm
  rw [List.length_take] at hm2
  rw [List.getElem_take] at he
  have h2 : P.getD j 0 = P[j] := by simp [List.getD, hj]
  have := List.pairwise_iff_getElem.1 hP m j (by omega) hj (by omega)
  omega
theorem insD_all {L : List (List ByteArray)} {k : ByteArray} {r : Nat} (h0 : 0 < r) (h1 : r ≤ 1099511627776) : insD L k (pows r 63) (pows r 63).length = joinL L (aloneL k r) := by
  have hp := pows_pos h0 (show r < 9223372036854775808 by omega)
  have ht : topJ (pows r 63) (pows r 63).length = topP r + 1 := by unfold topJ topP; rw [if_neg (by omega)]
  refine ext_getD (by rw [insD_len, joinL_len, aloneL_len, ht]) (fun i hi => ?_)
  rw [insD_at (pows_inc r 63) (Nat.le_refl _), joinL_at, List.take_length]
  congr 1
  by_cases hm : i ∈ pows r 63
  · rw [if_pos hm, aloneL_at k r i (pows_le_top hm), if_pos (pows_iff.1 hm).2]
  · rw [if_neg hm]
    by_cases hi2 : i ≤ topP r
    · have h40 := pows_lt41 h1 (topP_mem h0 (by omega))
      rw [aloneL_at k r i hi2, if_neg (fun h => hm (pows_iff.2 ⟨by omega, h⟩))]
    · simp [List.getD, List.getElem?_eq_none (show (aloneL k r).length ≤ i by rw [aloneL_len]; omega)]
theorem aS_zero {K : Int} (k0 : 0 ≤ K) (k1 : K ≤ 1099511627776) : aS K 0 = K := by
  unfold aS satN nat0
  rw [if_neg (by omega)]
  omega
end Go.Proofs.YtdifilhfmbpalaaDoor
