/- Lists of pages as numbers: look-up, change, removal, insertion, the smallest free number. No program. -/
import Derived.WalkKit
namespace Go.Proofs.Ytmnahnmkffndlaa
open Go.RowKit
set_option linter.unusedVariables false
set_option linter.unusedSimpArgs false
/-- A page: its number, its references, its bytes. -/
structure Pg where
  n : Int
  r : Int
  d : List Int
/-- The page of a number. -/
def lookP (L : List Pg) (k : Int) : Option Pg := L.find? (fun p => p.n == k)
/-- The page of q's number becomes q. -/
def setP (L : List Pg) (q : Pg) : List Pg := L.map (fun p => if p.n = q.n then q else p)
def delP (L : List Pg) (k : Int) : List Pg := L.filter (fun p => p.n != k)
/-- q at its place. -/
def insP (q : Pg) : List Pg → List Pg
  | [] => [q]
  | p :: L => if q.n < p.n then q :: p :: L else p :: insP q L
/-- The smallest number from k on that no page has (of pages in ascending order, from k on). -/
def frN : Int → List Pg → Int
  | k, [] => k
  | k, p :: L => if p.n = k then frN (k + 1) L else k
/-- Ascending numbers, from m on. -/
def AscP : Int → List Pg → Prop
  | _, [] => True
  | m, p :: L => m ≤ p.n ∧ AscP (p.n + 1) L
theorem AscP.mono : ∀ {L : List Pg} {m m' : Int}, AscP m L → m' ≤ m → AscP m' L
  | [], _, _, _, _ => trivial
  | p :: L, m, m', h, hm => ⟨by have := h.1; omega, h.2⟩
theorem AscP.low : ∀ {L : List Pg} {m : Int}, AscP m L → ∀ p ∈ L, m ≤ p.n
  | p :: L, m, h, q, hq => by
    rcases List.mem_cons.1 hq with rfl | hq
    · exact h.1
    · have := AscP.low h.2 q hq
      have := h.1
      omega
theorem look_low : ∀ {L : List Pg} {m k : Int}, AscP m L → k < m → lookP L k = none := fun {L m k} h hk => by
  unfold lookP
  refine List.find?_eq_none.2 fun p hp => ?_
  have := h.low p hp
  simp
  omega
theorem look_cons (p : Pg) (L : List Pg) (k : Int) : lookP (p :: L) k = if p.n = k then some p else lookP L k := by
  unfold lookP
  rw [List.find?_cons]
  by_cases h : p.n = k
  · simp [h]
  · have e : (p.n == k) = false := by simp [h]
    rw [e, if_neg h]
theorem look_some {L : List Pg} {k : Int} {p : Pg} (h : lookP L k = some p) : p ∈ L ∧ p.n = k := by
  unfold lookP at h
  have h1 := List.mem_of_find?_eq_some h
  have h2 := List.find?_some h
  exact ⟨h1, by simpa using h2⟩
theorem look_mem : ∀ {L : List Pg} {m : Int} {p : Pg}, AscP m L → p ∈ L → lookP L p.n = some p
  | q :: L, m, p, h, hp => by
    rw [look_cons]
    rcases List.mem_cons.1 hp with rfl | hp
    · simp
    · have := h.2.low p hp
      rw [if_neg (by omega)]
      exact look_mem h.2 hp
theorem look_none {L : List Pg} {k : Int} (h : lookP L k = none) : ∀ p ∈ L, p.n ≠ k := fun p hp e => by
  unfold lookP at h
  have := List.find?_eq_none.1 h p hp
  simp [e] at this
/-! change -/
theorem setP_len (L : List Pg) (q : Pg) : (setP L q).length = L.length := by simp [setP]
theorem setP_cons (p : Pg) (L : List Pg) (q : Pg) : setP (p :: L) q = (if p.n = q.n then q else p) :: setP L q := rfl
theorem setP_asc : ∀ {L : List Pg} {m : Int} (q : Pg), AscP m L → AscP m (setP L q)
  | [], _, _, _ => trivial
  | p :: L, m, q, h => by
    rw [setP_cons]
    have e : (if p.n = q.n then q else p).n = p.n := by
      by_cases hq : p.n = q.n <;> simp [hq]
    refine ⟨by rw [e]; exact h.1, ?_⟩
    rw [e]
    exact setP_asc q h.2
theorem look_set : ∀ (L : List Pg) (q : Pg) (k : Int), lookP (setP L q) k = if k = q.n then (if (lookP L k).isSome then some q else none) else lookP L k
  | [], q, k => by simp [setP, lookP]
  | p :: L, q, k => by
    rw [setP_cons, look_cons, look_cons, look_set L q k]
    by_cases h1 : p.n = q.n
    · by_cases h2 : k = q.n
      · subst h2; simp [h1]
      · have : ¬ p.n = k := by omega
        have h3 : ¬ q.n = k := fun e => h2 e.symm
        simp [h1, h2, h3, this]
    · by_cases h2 : p.n = k
      · have : ¬ k = q.n := by omega
        simp [h1, h2, this]
      · simp [h1, h2]
/-! removal -/
theorem delP_cons (p : Pg) (L : List Pg) (k : Int) : delP (p :: L) k = if p.n = k then delP L k else p :: delP L k := by
  unfold delP
  rw [List.filter_cons]
  by_cases h : p.n = k <;> simp [h]
theorem delP_asc : ∀ {L : List Pg} {m : Int} (k : Int), AscP m L → AscP m (delP L k)
  | [], _, _, _ => trivial
  | p :: L, m, k, h => by
    rw [delP_cons]
    split
    · exact (delP_asc k h.2).mono (by have := h.1; omega)
    · exact ⟨h.1, delP_asc k h.2⟩
theorem look_del : ∀ (L : List Pg) (k j : Int), lookP (delP L k) j = if j = k then none else lookP L j
  | [], k, j => by simp [delP, lookP]
  | p :: L, k, j => by
    rw [delP_cons]
    by_cases h1 : p.n = k
    · rw [if_pos h1, look_del L k j, look_cons]
      by_cases h2 : j = k
      · simp [h2]
      · rw [if_neg h2, if_neg h2, if_neg (by omega)]
    · rw [if_neg h1, look_cons, look_cons, look_del L k j]
      by_cases h2 : j = k
      · subst h2; simp [h1]
      · simp [h2]
theorem delP_none : ∀ {L : List Pg} {k : Int}, (∀ p ∈ L, p.n ≠ k) → delP L k = L := fun {L k} h => by
  unfold delP
  exact List.filter_eq_self.2 fun p hp => by simpa using h p hp
theorem delP_len : ∀ {L : List Pg} {m k : Int} {p : Pg}, AscP m L → lookP L k = some p → (delP L k).length + 1 = L.length
  | [], _, _, _, _, h => by simp [lookP] at h
  | q :: L, m, k, p, h, hl => by
    rw [delP_cons]
    by_cases h1 : q.n = k
    · rw [if_pos h1, delP_none fun x hx => by have := h.2.low x hx; omega]
      rfl
    · rw [look_cons, if_neg h1] at hl
      rw [if_neg h1]
      have := delP_len h.2 hl
      simp only [List.length_cons]
      omega
/-! insertion -/
theorem insP_len (q : Pg) : ∀ L : List Pg, (insP q L).length = L.length + 1
  | [] => rfl
  | p :: L => by
    unfold insP
    split
    · rfl
    · simp only [List.length_cons, insP_len q L]
theorem insP_asc (q : Pg) : ∀ {L : List Pg} {m : Int}, AscP m L → m ≤ q.n → lookP L q.n = none → AscP m (insP q L)
  | [], m, h, hq, _ => ⟨hq, trivial⟩
  | p :: L, m, h, hq, hl => by
    rw [look_cons] at hl
    have hne : p.n ≠ q.n := fun e => by rw [if_pos e] at hl; cases hl
    rw [if_neg hne] at hl
    unfold insP
    split
    · rename_i hlt
      exact ⟨hq, by omega, h.2⟩
    · exact ⟨h.1, insP_asc q h.2 (by omega) hl⟩
theorem look_ins (q : Pg) : ∀ (L : List Pg) (m k : Int), AscP m L → lookP L q.n = none → lookP (insP q L) k = if k = q.n then some q else lookP L k
  | [], m, k, _, _ => by
    rw [insP, look_cons]
    by_cases h : k = q.n
    · simp [h]
    · rw [if_neg h, if_neg (fun e => h e.symm)]
  | p :: L, m, k, ha, hl => by
    rw [look_cons] at hl
    have hne : p.n ≠ q.n := fun e => by rw [if_pos e] at hl; cases hl
    rw [if_neg hne] at hl
    unfold insP
    split
    · rw [look_cons]
      by_cases h : k = q.n
      · simp [h]
      · rw [if_neg h, if_neg (fun e => h e.symm)]
    · rw [look_cons, look_cons, look_ins q L _ k ha.2 hl]
      by_cases h : k = q.n
      · subst h; simp [hne]
      · simp [h]
/-! the smallest free number -/
theorem frN_le : ∀ (L : List Pg) (k : Int), k ≤ frN k L ∧ frN k L ≤ k + L.length
  | [], k => by simp [frN]
  | p :: L, k => by
    unfold frN
    split
    · have := frN_le L (k + 1)
      simp only [List.length_cons]
      omega
    · simp only [List.length_cons]
      omega
theorem frN_none : ∀ {L : List Pg} {k : Int}, AscP k L → lookP L (frN k L) = none
  | [], k, _ => rfl
  | p :: L, k, h => by
    unfold frN
    by_cases h1 : p.n = k
    · rw [if_pos h1, look_cons, if_neg (by have := (frN_le L (k + 1)).1; omega)]
      exact frN_none (by rw [← h1]; exact h.2)
    · rw [if_neg h1, look_cons, if_neg h1]
      exact look_low h.2 (by have := h.1; omega)
theorem frN_some : ∀ {L : List Pg} {k j : Int}, AscP k L → k ≤ j → j < frN k L → ∃ p, lookP L j = some p
  | [], k, j, _, h1, h2 => by simp [frN] at h2; omega
  | p :: L, k, j, h, h1, h2 => by
    unfold frN at h2
    by_cases hp : p.n = k
    · rw [if_pos hp] at h2
      rw [look_cons]
      by_cases hj : p.n = j
      · exact ⟨p, by rw [if_pos hj]⟩
      · rw [if_neg hj]
        exact frN_some (k := k + 1) (by rw [← hp]; exact h.2) (by omega) h2
    · rw [if_neg hp] at h2
      omega
end Go.Proofs.Ytmnahnmkffndlaa
