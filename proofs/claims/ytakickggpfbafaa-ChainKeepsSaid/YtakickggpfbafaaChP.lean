/- Chains as numbers: what an appended version, and what a removed dead one, change of what is found. No program. -/
import Derived.Test.YtakickggpfbafaaChD
import Derived.Test.YtakickggpfbafaaChA
import Derived.Test.YtakickggpfbafaaChH
namespace Go.Proofs.Ytakickggpfbafaa
open Go.RowKit
set_option linter.unusedVariables false
set_option linter.unusedSimpArgs false
theorem fndV_eq (L : List Vn) (c : Int) : fndV L c = L.findIdx? (fun x => hldC x.n x.r c) := by
  unfold fndV
  rw [← fndC_fir]
  unfold firV
  rw [List.findIdx?_map]
  rfl
theorem fir_set {p : Vn → Bool} {z : Vn} : ∀ {L : List Vn} {j : Nat}, j < L.length → p z = p (L.getD j Vn.z) → (L.set j z).findIdx? p = L.findIdx? p
  | [], _, h, _ => by simp at h
  | x :: L, 0, _, h => by
    have h : p z = p x := h
    rw [List.set_cons_zero, List.findIdx?_cons, List.findIdx?_cons, h]
  | x :: L, j + 1, h, hp => by
    have e : (x :: L).getD (j + 1) Vn.z = L.getD j Vn.z := by simp [List.getD]
    rw [e] at hp
    rw [List.set_cons_succ, List.findIdx?_cons, List.findIdx?_cons, fir_set (by simp at h; omega) hp]
theorem fir_snoc {p : Vn → Bool} {y : Vn} (L : List Vn) (h : p y = false) : (L ++ [y]).findIdx? p = L.findIdx? p := by
  rw [List.findIdx?_append]
  simp [List.findIdx?_cons, h]
/-- Without an element that p does not hold of. -/
theorem fir_rem {p : Vn → Bool} : ∀ {L : List Vn} {j : Nat}, j < L.length → p (L.getD j Vn.z) = false →
    (L.findIdx? p = none → (L.take j ++ L.drop (j + 1)).findIdx? p = none) ∧ ∀ i, L.findIdx? p = some i → ∃ i', (L.take j ++ L.drop (j + 1)).findIdx? p = some i' ∧ i' < (L.take j ++ L.drop (j + 1)).length ∧ (L.take j ++ L.drop (j + 1)).getD i' Vn.z = L.getD i Vn.z
  | [], _, h, _ => by simp at h
  | x :: L, 0, _, h => by
    have h : p x = false := h
    simp only [List.take_zero, List.nil_append, List.drop_succ_cons, List.drop_zero]
    rw [List.findIdx?_cons]
    simp only [h, Bool.false_eq_true, if_false]
    refine ⟨fun hn => by simpa using hn, fun i hi => ?_⟩
    obtain ⟨i', h1, rfl⟩ := Option.map_eq_some_iff.1 hi
    exact ⟨i', h1, (List.findIdx?_eq_some_iff_getElem.1 h1).1, by simp [List.getD]⟩
  | x :: L, j + 1, hj, h => by
    have e : (x :: L).getD (j + 1) Vn.z = L.getD j Vn.z := by simp [List.getD]
    rw [e] at h
    obtain ⟨ih1, ih2⟩ := fir_rem (L := L) (j := j) (by simp at hj; omega) h
    simp only [List.take_succ_cons, List.drop_succ_cons, List.cons_append]
    rw [List.findIdx?_cons, List.findIdx?_cons]
    by_cases hx : p x = true
    · simp only [hx, if_true]
      refine ⟨fun hn => (by cases hn), fun i hi => ?_⟩
      obtain rfl : 0 = i := Option.some.inj hi
      exact ⟨0, rfl, by simp, rfl⟩
    · have hx : p x = false := by simpa using hx
      simp only [hx, Bool.false_eq_true, if_false]
      refine ⟨fun hn => ?_, fun i hi => ?_⟩
      · rw [ih1 (by simpa using hn)]
        rfl
      · obtain ⟨i0, h1, rfl⟩ := Option.map_eq_some_iff.1 hi
        obtain ⟨i', g1, g2, g3⟩ := ih2 i0 h1
        refine ⟨i' + 1, by rw [g1]; rfl, by simp at g2 ⊢; omega, ?_⟩
        simpa [List.getD] using g3
theorem deadF_mem {P : List Pn} {L : List Vn} : ∀ {i : Nat} {d : Int}, d ∈ deadF P L i → ∃ j : Nat, d = ((i + j : Nat) : Int) ∧ j < L.length ∧ (L.getD j Vn.z).r ≠ 0 ∧ covP (L.getD j Vn.z).n (L.getD j Vn.z).r P = false := by
  induction L with
  | nil => intro i d h; simp [deadF] at h
  | cons x L ih =>
    intro i d h
    have hrec : d ∈ deadF P L (i + 1) → ∃ j : Nat, d = ((i + j : Nat) : Int) ∧ j < (x :: L).length ∧ ((x :: L).getD j Vn.z).r ≠ 0 ∧ covP ((x :: L).getD j Vn.z).n ((x :: L).getD j Vn.z).r P = false := fun h => by
      obtain ⟨j, h1, h2, h3, h4⟩ := ih h
      have e : (x :: L).getD (j + 1) Vn.z = L.getD j Vn.z := by simp [List.getD]
      exact ⟨j + 1, by rw [h1]; congr 1; omega, by simp; omega, by rw [e]; exact h3, by rw [e]; exact h4⟩
    unfold deadF at h
    split at h
    · rename_i hc
      rcases List.mem_cons.1 h with rfl | h
      · exact ⟨0, by simp, by simp, hc.1, hc.2⟩
      · exact hrec h
    · exact hrec h
/-- What a valid chain's versions are like. -/
theorem valV_at {L : List Vn} (h : valV L = 0) {i : Nat} (hi : i < L.length) : 1 ≤ (L.getD i Vn.z).n ∧ 0 ≤ (L.getD i Vn.z).r ∧ 0 ≤ (L.getD i Vn.z).k ∧ ((L.getD i Vn.z).r = 0 ∨ (L.getD i Vn.z).n < (L.getD i Vn.z).r) ∧ (0 < i → (L.getD (i - 1) Vn.z).r ≠ 0 ∧ (L.getD (i - 1) Vn.z).r ≤ (L.getD i Vn.z).n) := by
  have := valC_of h i (by simpa using hi)
  unfold errC at this
  rw [vn_at, vn_at] at this
  change (if (L.getD i Vn.z).n < 1 ∨ (L.getD i Vn.z).r < 0 ∨ (L.getD i Vn.z).k < 0 then (5 : Int) else if (L.getD i Vn.z).r ≠ 0 ∧ (L.getD i Vn.z).r ≤ (L.getD i Vn.z).n then 19 else if 0 < i ∧ ((L.getD (i - 1) Vn.z).r = 0 ∨ (L.getD i Vn.z).n < (L.getD (i - 1) Vn.z).r) then 19 else 0) = 0 at this
  split at this
  · omega
  · split at this
    · omega
    · split at this
      · omega
      · rename_i h1 h2 h3
        refine ⟨by omega, by omega, by omega, ?_, fun h0 => ?_⟩
        · by_cases hr : (L.getD i Vn.z).r = 0
          · exact .inl hr
          · right
            have := fun h => h2 ⟨hr, h⟩
            omega
        · refine ⟨fun h => h3 ⟨h0, .inl h⟩, ?_⟩
          have := fun h => h3 ⟨h0, .inr h⟩
          omega
theorem valV_of {L : List Vn} (h : ∀ i, i < L.length → 1 ≤ (L.getD i Vn.z).n ∧ 0 ≤ (L.getD i Vn.z).r ∧ 0 ≤ (L.getD i Vn.z).k ∧ ((L.getD i Vn.z).r = 0 ∨ (L.getD i Vn.z).n < (L.getD i Vn.z).r) ∧ (0 < i → (L.getD (i - 1) Vn.z).r ≠ 0 ∧ (L.getD (i - 1) Vn.z).r ≤ (L.getD i Vn.z).n)) : valV L = 0 := by
  refine valC_ok fun i hi => ?_
  obtain ⟨h1, h2, h3, h4, h5⟩ := h i (by simpa using hi)
  unfold errC
  rw [vn_at, vn_at]
  change (if (L.getD i Vn.z).n < 1 ∨ (L.getD i Vn.z).r < 0 ∨ (L.getD i Vn.z).k < 0 then (5 : Int) else if (L.getD i Vn.z).r ≠ 0 ∧ (L.getD i Vn.z).r ≤ (L.getD i Vn.z).n then 19 else if 0 < i ∧ ((L.getD (i - 1) Vn.z).r = 0 ∨ (L.getD i Vn.z).n < (L.getD (i - 1) Vn.z).r) then 19 else 0) = 0
  rw [if_neg (by omega), if_neg (by omega), if_neg]
  rintro ⟨h0, h⟩
  obtain ⟨g1, g2⟩ := h5 h0
  omega
theorem valV_lt {L : List Vn} (h : valV L = 0) : ∀ {j i : Nat}, i < j → j < L.length → (L.getD i Vn.z).n < (L.getD j Vn.z).n := by
  intro j
  induction j with
  | zero => intro i hi; omega
  | succ j ih =>
    intro i hi hj
    obtain ⟨-, -, -, -, h5⟩ := valV_at h hj
    obtain ⟨h6, h7⟩ := h5 (by omega)
    rw [Nat.add_sub_cancel] at h6 h7
    obtain ⟨-, -, -, h8, -⟩ := valV_at h (show j < L.length by omega)
    have h9 : (L.getD j Vn.z).n < (L.getD (j + 1) Vn.z).n := by
      rcases h8 with h8 | h8
      · exact absurd h8 h6
      · omega
    rcases Nat.lt_or_ge i j with h' | h'
    · have := ih h' (by omega)
      omega
    · obtain rfl : i = j := by omega
      exact h9
theorem remK_at {L : List Vn} (h : valV L = 0) {j : Nat} (hj : j < L.length) : remK L (L.getD j Vn.z).n = some j := by
  unfold remK
  rw [List.findIdx?_eq_some_iff_getElem]
  have e : L.getD j Vn.z = L[j] := by simp [List.getD, hj]
  refine ⟨hj, by rw [e]; simp, fun i hi => ?_⟩
  have := valV_lt h hi hj
  have e2 : L.getD i Vn.z = L[i] := by simp [List.getD, show i < L.length by omega]
  rw [e2] at this
  show ¬ (L[i].n == (L.getD j Vn.z).n) = true
  rw [beq_iff_eq]
  omega
/-- The chain with one version more. -/
def plusV (L : List Vn) (f : Int) (p : List Int) : List Vn := endV L f ++ [⟨f, 0, 0, p⟩]
theorem plusV_len (L : List Vn) (f : Int) (p : List Int) : (plusV L f p).length = L.length + 1 := by
  unfold plusV endV
  split <;> simp
theorem plus_app {L : List Vn} {f : Int} {p : List Int} (h : valV L = 0) (h0 : 0 < L.length) (h1 : (lastV L).n < f) (h2 : (lastV L).r < f) (hf : 1 ≤ f) : appE L ⟨f, 0, 0, p⟩ = 0 ∧ appV L ⟨f, 0, 0, p⟩ = plusV L f p := by
  have e : appE L ⟨f, 0, 0, p⟩ = 0 := by
    unfold appE
    rw [if_neg (fun h' => h' h), if_neg (by simp; omega), if_neg (by simp; omega)]
  refine ⟨e, ?_⟩
  unfold appV
  rw [e, if_pos rfl]
  rfl
theorem plus_at {L : List Vn} {f : Int} {p : List Int} (h0 : 0 < L.length) (i : Nat) : (plusV L f p).getD i Vn.z = if i < L.length - 1 then L.getD i Vn.z else if i = L.length - 1 then ⟨(lastV L).n, if (lastV L).r = 0 then f else (lastV L).r, (lastV L).k, (lastV L).p⟩ else if i = L.length then ⟨f, 0, 0, p⟩ else Vn.z := by
  have hl : L.getD (L.length - 1) Vn.z = lastV L := rfl
  have hlen : (endV L f).length = L.length := by unfold endV; split <;> simp
  unfold plusV
  by_cases hi : i < L.length
  · have e1 : (endV L f ++ [(⟨f, 0, 0, p⟩ : Vn)]).getD i Vn.z = (endV L f).getD i Vn.z := by
      simp only [List.getD_eq_getElem?_getD]
      rw [List.getElem?_append_left (by omega)]
    rw [e1]
    unfold endV
    by_cases hr : (lastV L).r = 0
    · rw [if_pos hr]
      simp only [hr, if_true]
      by_cases h1 : i = L.length - 1
      · subst h1
        rw [if_neg (by omega), if_pos rfl]
        simp [List.getD, show L.length - 1 < L.length by omega]
      · rw [if_pos (by omega)]
        simp only [List.getD_eq_getElem?_getD]
        rw [List.getElem?_set_ne (by omega)]
    · rw [if_neg hr]
      simp only [hr, if_false]
      by_cases h1 : i = L.length - 1
      · subst h1
        rw [if_neg (by omega), if_pos rfl, hl]
      · rw [if_pos (by omega)]
  · rw [if_neg (by omega), if_neg (by omega)]
    by_cases h1 : i = L.length
    · subst h1
      rw [if_pos rfl]
      simp only [List.getD_eq_getElem?_getD]
      rw [List.getElem?_append_right (by omega), hlen, Nat.sub_self]
      rfl
    · rw [if_neg h1]
      simp only [List.getD_eq_getElem?_getD]
      rw [List.getElem?_eq_none (by simp; omega)]
      rfl
theorem plus_val {L : List Vn} {f : Int} {p : List Int} (h : valV L = 0) (h0 : 0 < L.length) (h1 : (lastV L).n < f) (h2 : (lastV L).r < f) : valV (plusV L f p) = 0 := by
  have hl : L.getD (L.length - 1) Vn.z = lastV L := rfl
  have hlast := valV_at h (show L.length - 1 < L.length by omega)
  rw [hl] at hlast
  refine valV_of fun i hi => ?_
  rw [plusV_len] at hi
  rw [plus_at h0, plus_at h0]
  by_cases c1 : i < L.length - 1
  · rw [if_pos c1, if_pos (by omega)]
    exact valV_at h (by omega)
  · by_cases c2 : i = L.length - 1
    · rw [if_neg c1, if_pos c2]
      obtain ⟨g1, g2, g3, g4, g5⟩ := hlast
      refine ⟨g1, ?_, g3, ?_, fun hi0 => ?_⟩
      · show 0 ≤ if (lastV L).r = 0 then f else (lastV L).r
        split <;> omega
      · show (if (lastV L).r = 0 then f else (lastV L).r) = 0 ∨ (lastV L).n < (if (lastV L).r = 0 then f else (lastV L).r)
        split <;> omega
      · rw [if_pos (by omega)]
        subst c2
        exact g5 hi0
    · have c3 : i = L.length := by omega
      rw [if_neg c1, if_neg c2, if_pos c3]
      obtain ⟨g1, g2, g3, g4, g5⟩ := hlast
      refine ⟨by show 1 ≤ f; omega, by show (0 : Int) ≤ 0; decide, by show (0 : Int) ≤ 0; decide, .inl rfl, fun hi0 => ?_⟩
      rw [if_neg (by omega), if_pos (by omega)]
      show (if (lastV L).r = 0 then f else (lastV L).r) ≠ 0 ∧ (if (lastV L).r = 0 then f else (lastV L).r) ≤ f
      split <;> omega
theorem plus_fnd {L : List Vn} {f : Int} {p : List Int} (h0 : 0 < L.length) {k : Int} (hk : k < f) : fndV (plusV L f p) k = fndV L k := by
  rw [fndV_eq, fndV_eq]
  unfold plusV
  rw [fir_snoc _ (by simp [hldC]; omega)]
  unfold endV
  by_cases hr : (lastV L).r = 0
  · rw [if_pos hr]
    refine fir_set (by omega) ?_
    show hldC (lastV L).n f k = hldC (lastV L).n (lastV L).r k
    rw [hr]
    simp [hldC, hk]
  · rw [if_neg hr]
theorem fnd_lt {L : List Vn} {k : Int} {i : Nat} (h : fndV L k = some i) : i < L.length ∧ hldC (L.getD i Vn.z).n (L.getD i Vn.z).r k = true := by
  rw [fndV_eq] at h
  obtain ⟨h1, h2, -⟩ := List.findIdx?_eq_some_iff_getElem.1 h
  exact ⟨h1, by simpa [List.getD, h1] using h2⟩
theorem cov_one (n r c : Int) : covP n r [⟨c, 1⟩] = hldC n r c := by
  unfold covP hldC
  simp [conP]
end Go.Proofs.Ytakickggpfbafaa
