/- What summaries of insertions know: counts are upper bounds, counts less errors are lower bounds, all counts together are at most the total. No program. -/
import Derived.Test.YtcmekpdgikploaaMerN
import Derived.Test.YtcmekpdgikploaaSame9
import Derived.Test.YtcmekpdgikploaaOrd9
namespace Go.Proofs.Ytcmekpdgikploaa
open Go.RowKit
set_option linter.unusedVariables false
set_option linter.unusedSimpArgs false
def sumC : List Ent → Int
  | [] => 0
  | x :: L => x.c + sumC L
theorem sumC_app (L M : List Ent) : sumC (L ++ M) = sumC L + sumC M := by
  induction L with
  | nil => simp [sumC]
  | cons x L ih => simp only [List.cons_append, sumC, ih]; omega
theorem sumC_perm {L M : List Ent} (p : L.Perm M) : sumC L = sumC M := by
  induction p with
  | nil => rfl
  | cons x _ ih => simp only [sumC, ih]
  | swap x y l => simp only [sumC]; omega
  | trans _ _ h1 h2 => exact h1.trans h2
theorem sumC_ge {L : List Ent} {m : Int} (h : ∀ x ∈ L, m ≤ x.c) : m * L.length ≤ sumC L := by
  induction L with
  | nil => simp [sumC]
  | cons x L ih =>
    have h1 := h x (List.mem_cons_self ..)
    have h2 := ih (fun y hy => h y (List.mem_cons_of_mem _ hy))
    simp only [sumC, List.length_cons]
    rw [show ((L.length + 1 : Nat) : Int) = (L.length : Int) + 1 by omega, Int.mul_add]
    omega
theorem sumC_mem {L : List Ent} (h : ∀ x ∈ L, 0 ≤ x.c) {x : Ent} (hx : x ∈ L) : x.c ≤ sumC L := by
  induction L with
  | nil => cases hx
  | cons y L ih =>
    have h1 := h y (List.mem_cons_self ..)
    have h2 := fun z hz => h z (List.mem_cons_of_mem y hz)
    have h3 := sumC_ge (m := 0) h2
    simp only [sumC]
    rcases List.mem_cons.1 hx with rfl | hx
    · omega
    · have := ih h2 hx; omega
theorem entE_zero {x : Ent} (h : entE x = 0) : keyB (byt x.k) = true ∧ 1 ≤ x.c ∧ x.c ≤ 1099511627776 ∧ 0 ≤ x.e ∧ x.e < x.c := by
  unfold entE at h
  split at h
  · cases h
  · rename_i hk
    split at h
    · cases h
    · exact ⟨by simpa using hk, by omega, by omega, by omega, by omega⟩
theorem entE_of {x : Ent} (hk : keyB (byt x.k) = true) (h1 : 1 ≤ x.c) (h2 : x.c ≤ 1099511627776) (h3 : 0 ≤ x.e) (h4 : x.e < x.c) : entE x = 0 := by
  unfold entE
  rw [if_neg (by rw [hk]; simp), if_neg (by omega)]
theorem hasK_iff (L : List Ent) (k : ByteArray) : hasK L k = true ↔ ∃ x ∈ L, x.k = k := by
  unfold hasK
  rw [List.any_eq_true]
  simp only [sameK_iff]
theorem hasK_not {L : List Ent} {k : ByteArray} (h : hasK L k = false) {x : Ent} (hx : x ∈ L) : sameK x.k k = false := by
  cases hs : sameK x.k k with
  | false => rfl
  | true => rw [(hasK_iff L k).2 ⟨x, hx, (sameK_iff _ _).1 hs⟩] at h; cases h
theorem Keyed.one {L : List Ent} (h : Keyed L) : OneL L := fun i hi => by
  cases hh : hasK (L.take i) (L.getD i Ent.z).k with
  | false => rfl
  | true =>
    obtain ⟨x, hx, he⟩ := (hasK_iff _ _).1 hh
    have hg : L.getD i Ent.z = L[i] := by simp [List.getD, hi]
    rw [hg] at he
    obtain ⟨j, hj, rfl⟩ := List.mem_take_iff_getElem.1 hx
    have := List.pairwise_iff_getElem.1 h j i (by omega) hi (by omega)
    rw [he, sameK_self] at this
    cases this
theorem Keyed.of {L : List Ent} (h : OneL L) : Keyed L := by
  unfold Keyed
  rw [List.pairwise_iff_getElem]
  intro i j hi hj hij
  cases hs : sameK L[i].k L[j].k with
  | false => rfl
  | true =>
    have := h.inj (i := i) (j := j) (k := L[j].k) hi hj (by simpa [List.getD, hi] using hs) (by simpa [List.getD, hj] using sameK_self L[j].k)
    omega
theorem Keyed.find {L : List Ent} (h : Keyed L) {x : Ent} (hx : x ∈ L) (l : Int) : entAt L x.k l = x := by
  obtain ⟨i, hi, rfl⟩ := List.mem_iff_getElem.1 hx
  have := entAt_self h.one hi l
  have hg : L.getD i Ent.z = L[i] := by simp [List.getD, hi]
  rwa [hg] at this
theorem entAt_none {L : List Ent} {k : ByteArray} (h : hasK L k = false) (l : Int) : entAt L k l = ⟨k, l, l⟩ := by
  unfold entAt
  rw [if_neg (by rw [h]; simp)]
/-- The least count is no greater than any. -/
theorem leastI_le {S : Int} {L : List Ent} (hs : Sorted L) (h0 : ∀ x ∈ L, 0 ≤ x.c) {x : Ent} (hx : x ∈ L) : leastI S L ≤ x.c := by
  unfold leastI
  split
  · exact h0 x hx
  · obtain ⟨i, hi, rfl⟩ := List.mem_iff_getElem.1 hx
    have hg : L.getD (L.length - 1) Ent.z = L[L.length - 1] := by simp [List.getD, show L.length - 1 < L.length by omega]
    rw [hg]
    by_cases he : i = L.length - 1
    · subst he; exact Int.le_refl _
    · have := List.pairwise_iff_getElem.1 hs i (L.length - 1) hi (by omega) (by omega)
      rcases (bef_iff _ _).1 this with h | ⟨h, _⟩ <;> omega
theorem leastI_pos {S : Int} {L : List Ent} (h0 : ∀ x ∈ L, 0 ≤ x.c) : 0 ≤ leastI S L := by
  unfold leastI
  split
  · exact Int.le_refl _
  · have hg : L.getD (L.length - 1) Ent.z = L[L.length - 1] := by simp [List.getD, show L.length - 1 < L.length by omega]
    rw [hg]
    exact h0 _ (List.getElem_mem _)
theorem leastI_ge {S m : Int} {L : List Ent} (h0 : ∀ x ∈ L, 0 ≤ x.c) (hS : 1 ≤ S) (h : (m ≤ 0) ∨ ((L.length : Int) = S ∧ ∀ x ∈ L, m ≤ x.c)) : m ≤ leastI S L := by
  rcases h with h | ⟨hl, h⟩
  · have := leastI_pos (S := S) h0; omega
  · unfold leastI
    rw [if_neg (by omega)]
    have hg : L.getD (L.length - 1) Ent.z = L[L.length - 1] := by simp [List.getD, show L.length - 1 < L.length by omega]
    rw [hg]
    exact h _ (List.getElem_mem _)
theorem leastI_room {S : Int} {L : List Ent} (h : (L.length : Int) ≠ S) : leastI S L = 0 := by
  unfold leastI
  rw [if_pos (.inr h)]
theorem leastI_sum {S : Int} {L : List Ent} (hS : 1 ≤ S) (hs : Sorted L) (h0 : ∀ x ∈ L, 0 ≤ x.c) : leastI S L * S ≤ sumC L := by
  by_cases h : (L.length : Int) = S
  · have := sumC_ge (fun x hx => leastI_le (S := S) hs h0 hx)
    rw [h] at this
    exact this
  · rw [leastI_room h]
    have := sumC_ge (m := 0) h0
    omega
/-- A summary whose insertions had the weights f, W together. -/
structure Spc (S : Int) (f : ByteArray → Int) (W : Int) (c : TP) : Prop where
  hS : c.S = S
  s0 : 1 ≤ S
  s1 : S ≤ 32
  hT : c.T = W
  w0 : 0 ≤ W
  w1 : W ≤ 1099511627776
  hs : c.s = false
  len : (c.L.length : Int) ≤ S
  key : Keyed c.L
  srt : Sorted c.L
  ent : ∀ x ∈ c.L, entE x = 0
  sum : sumC c.L ≤ W
  err : ∀ x ∈ c.L, x.e * S ≤ W
  lo : ∀ x ∈ c.L, x.c - x.e ≤ f x.k ∧ f x.k ≤ x.c
  un : ∀ k, hasK c.L k = false → f k ≤ leastI S c.L
  pos : ∀ k, 0 ≤ f k
theorem Spc.c0 {S : Int} {f : ByteArray → Int} {W : Int} {c : TP} (h : Spc S f W c) : ∀ x ∈ c.L, 0 ≤ x.c := fun x hx => by have := entE_zero (h.ent x hx); omega
theorem Spc.bd {S : Int} {f : ByteArray → Int} {W : Int} {c : TP} (h : Spc S f W c) : (-9223372036854775808 ≤ c.S ∧ c.S ≤ 9223372036854775807) ∧ (-9223372036854775808 ≤ c.T ∧ c.T ≤ 9223372036854775807) := by
  have h1 := h.hS
  have h2 := h.hT
  have h3 := h.s0
  have h4 := h.s1
  have h5 := h.w0
  have h6 := h.w1
  omega
theorem Spc.least {S : Int} {f : ByteArray → Int} {W : Int} {c : TP} (h : Spc S f W c) : leastI S c.L * S ≤ W := Int.le_trans (leastI_sum h.s0 h.srt h.c0) h.sum
theorem Spc.valid {S : Int} {f : ByteArray → Int} {W : Int} {c : TP} (h : Spc S f W c) : valE c.S c.T c.L = 0 := by
  have g : ∀ i (hi : i < c.L.length), c.L.getD i Ent.z = c.L[i] := fun i hi => by simp [List.getD, hi]
  refine valE_of ⟨by rw [h.hS]; exact h.s0, by rw [h.hS]; exact h.s1, by rw [h.hT]; exact h.w0, by rw [h.hT]; exact h.w1, by rw [h.hS]; exact h.len, fun i hi => ?_, h.key.one, fun i hi => ?_⟩
  · rw [g i hi]; exact h.ent _ (List.getElem_mem _)
  · rw [g i (by omega), g (i + 1) hi]
    exact List.pairwise_iff_getElem.1 h.srt i (i + 1) (by omega) hi (by omega)
theorem Spc.new {S : Int} (h0 : 1 ≤ S) (h1 : S ≤ 32) : Spc S (fun _ => 0) 0 (newT S) := by
  have e : newT S = ⟨S, 0, [], false⟩ := by unfold newT; rw [if_neg (by omega)]
  rw [e]
  exact ⟨rfl, h0, h1, rfl, by omega, by omega, rfl, by simp; omega, List.Pairwise.nil, List.Pairwise.nil, by simp, by simp [sumC], by simp, by simp, fun k _ => by simp [leastI], fun _ => by omega⟩
/-- What is known of any key. -/
theorem Spc.any {S : Int} {f : ByteArray → Int} {W : Int} {c : TP} (h : Spc S f W c) (k : ByteArray) :
    (entAt c.L k (leastI S c.L)).c - (entAt c.L k (leastI S c.L)).e ≤ f k ∧ f k ≤ (entAt c.L k (leastI S c.L)).c ∧ (entAt c.L k (leastI S c.L)).e * S ≤ W ∧ 0 ≤ (entAt c.L k (leastI S c.L)).e ∧ (entAt c.L k (leastI S c.L)).c ≤ W ∧ leastI S c.L ≤ (entAt c.L k (leastI S c.L)).c ∧ (entAt c.L k (leastI S c.L)).e ≤ (entAt c.L k (leastI S c.L)).c := by
  have hl := h.least
  have hl0 := leastI_pos (S := S) h.c0
  have hlW : leastI S c.L ≤ W := by
    have := Int.mul_le_mul_of_nonneg_left h.s0 hl0
    omega
  cases hk : hasK c.L k with
  | true =>
    obtain ⟨x, hx, rfl⟩ := (hasK_iff _ _).1 hk
    rw [h.key.find hx]
    have he := entE_zero (h.ent x hx)
    exact ⟨(h.lo x hx).1, (h.lo x hx).2, h.err x hx, he.2.2.2.1, Int.le_trans (sumC_mem h.c0 hx) h.sum, leastI_le h.srt h.c0 hx, by omega⟩
  | false =>
    rw [entAt_none hk]
    have := h.pos k
    exact ⟨by dsimp only; omega, h.un k hk, hl, hl0, hlW, Int.le_refl _, Int.le_refl _⟩
end Go.Proofs.Ytcmekpdgikploaa
