/- Pages of bytes as lists. No program. -/
import Derived.Test.YtbppdbfjhdhehaaWords
namespace Go.Proofs.Ytbppdbfjhdhehaa
set_option linter.unusedVariables false
set_option linter.unusedSimpArgs false
/-- The pages that n bytes need. -/
def cntN (n s : Nat) : Nat := (n + s - 1) / s
theorem cnt_lt {n s i : Nat} (hs : 1 ≤ s) : i < cntN n s ↔ i * s < n := by
  unfold cntN
  rw [Nat.lt_iff_add_one_le, Nat.le_div_iff_mul_le (by omega), Nat.succ_mul]
  omega
theorem cnt_le {n s : Nat} (hs : 1 ≤ s) : cntN n s ≤ n := by
  by_cases h : cntN n s = 0
  · omega
  · have h1 : cntN n s - 1 < cntN n s := by omega
    have h2 := (cnt_lt hs).1 h1
    have h3 : cntN n s - 1 ≤ (cntN n s - 1) * s := Nat.le_mul_of_pos_right _ hs
    omega
/-- Where a page begins and ends. -/
def pgT (n s i : Nat) : Nat := min (i * s + s) n
/-- Page i. -/
def pgN (L : List Int) (s i : Nat) : List Int := (L.take (pgT L.length s i)).drop (i * s)
/-- All pages. -/
def pgs (L : List Int) (s : Nat) : List (List Int) := (List.range (cntN L.length s)).map (pgN L s)
theorem pgs_len (L : List Int) (s : Nat) : (pgs L s).length = cntN L.length s := by simp [pgs]
theorem pgs_at {L : List Int} {s j : Nat} (h : j < cntN L.length s) : (pgs L s).getD j [] = pgN L s j := by simp [pgs, List.getD, h]
theorem pg_len {L : List Int} {s i : Nat} (hs : 1 ≤ s) (h : i < cntN L.length s) : (pgN L s i).length = pgT L.length s i - i * s ∧ 1 ≤ (pgN L s i).length ∧ (pgN L s i).length ≤ s := by
  have h1 := (cnt_lt hs).1 h
  have e : (pgN L s i).length = pgT L.length s i - i * s := by
    unfold pgN pgT
    rw [List.length_drop, List.length_take]
    omega
  refine ⟨e, ?_, ?_⟩ <;> rw [e] <;> unfold pgT <;> omega
theorem pg_full {L : List Int} {s i : Nat} (hs : 1 ≤ s) (h : i + 1 < cntN L.length s) : (pgN L s i).length = s := by
  have h1 := (cnt_lt hs).1 h
  have h2 := (pg_len hs (show i < cntN L.length s by omega)).1
  rw [Nat.succ_mul] at h1
  rw [h2]
  unfold pgT
  omega
theorem pg_take {L : List Int} {s : Nat} (hs : 1 ≤ s) : ∀ k, k ≤ cntN L.length s → ((List.range k).map (pgN L s)).flatten = L.take (k * s) := by
  intro k
  induction k with
  | zero => intro _; simp
  | succ k ih =>
    intro hk
    have h1 := (cnt_lt hs).1 (show k < cntN L.length s by omega)
    rw [List.range_succ, List.map_append, List.flatten_append, ih (by omega)]
    simp only [List.map_cons, List.map_nil, List.flatten_cons, List.flatten_nil, List.append_nil]
    unfold pgN pgT
    have e : L.take (min (k * s + s) L.length) = L.take ((k + 1) * s) := by
      rw [Nat.succ_mul]
      by_cases h : k * s + s ≤ L.length
      · rw [Nat.min_eq_left h]
      · rw [Nat.min_eq_right (by omega), List.take_of_length_le (Nat.le_refl _), List.take_of_length_le (by omega)]
    rw [e]
    have e2 : L.take (k * s) = (L.take ((k + 1) * s)).take (k * s) := by
      rw [List.take_take, Nat.min_eq_left (by rw [Nat.succ_mul]; omega)]
    rw [e2, List.take_append_drop]
theorem pgs_join {L : List Int} {s : Nat} (hs : 1 ≤ s) : (pgs L s).flatten = L := by
  unfold pgs
  rw [pg_take hs _ (Nat.le_refl _)]
  refine List.take_of_length_le ?_
  have h := mt (cnt_lt (n := L.length) (i := cntN L.length s) hs).2 (Nat.lt_irrefl _)
  omega
theorem pg_byt {L : List Int} (h : Byt L) (s i : Nat) : Byt (pgN L s i) := (h.take _).drop _
/-- All bytes of a list of pages. -/
theorem flat_byt {Z : List (List Int)} (h : ∀ L ∈ Z, Byt L) : Byt Z.flatten := fun n hn => by
  obtain ⟨L, hL, hm⟩ := List.mem_flatten.1 hn
  exact h L hL n hm
end Go.Proofs.Ytbppdbfjhdhehaa
