/- Chains as numbers: validity, what is found. No program of its own. -/
import Derived.Test.YtakickggpfbafaaVsM
namespace Go.Proofs.Ytakickggpfbafaa
open Go.RowKit
set_option linter.unusedVariables false
set_option linter.unusedSimpArgs false
/-- What is wrong with version i. -/
def errC (L : List Vs) (i : Nat) : Int :=
  if (L.getD i Vs.z).n < 1 ∨ (L.getD i Vs.z).r < 0 ∨ (L.getD i Vs.z).k < 0 then 5 else if (L.getD i Vs.z).r ≠ 0 ∧ (L.getD i Vs.z).r ≤ (L.getD i Vs.z).n then 19
  else if 0 < i ∧ ((L.getD (i - 1) Vs.z).r = 0 ∨ (L.getD i Vs.z).n < (L.getD (i - 1) Vs.z).r) then 19 else 0
def valCF (L : List Vs) (i : Nat) : Nat → Int
  | 0 => 0
  | f + 1 => if errC L i = 0 then valCF L (i + 1) f else errC L i
/-- The error of Validate. -/
def valC (L : List Vs) : Int := valCF L 0 L.length
theorem valCF_step {L : List Vs} : ∀ {i : Nat} (j : Nat), (∀ q, i ≤ q → q < i + j → errC L q = 0) → ∀ f, valCF L i (j + f) = valCF L (i + j) f
  | i, 0, _, f => by rw [Nat.zero_add, Nat.add_zero]
  | i, j + 1, h, f => by
    rw [show j + 1 + f = (j + f) + 1 by omega, valCF, if_pos (h i (Nat.le_refl _) (by omega)), valCF_step j (fun q h1 h2 => h q (by omega) (by omega)) f]
    congr 1
    omega
theorem valC_bad {L : List Vs} {i : Nat} (h : ∀ q, q < i → errC L q = 0) (hi : i < L.length) (he : errC L i ≠ 0) : valC L = errC L i := by
  unfold valC
  obtain ⟨f, hf⟩ : ∃ f, L.length = i + (f + 1) := ⟨L.length - i - 1, by omega⟩
  rw [hf, valCF_step i (fun q _ h2 => h q (by omega)), Nat.zero_add, valCF, if_neg he]
theorem valC_ok {L : List Vs} (h : ∀ q, q < L.length → errC L q = 0) : valC L = 0 := by
  unfold valC
  have := valCF_step (L := L) (i := 0) L.length (fun q _ h2 => h q (by omega)) 0
  rw [Nat.add_zero] at this
  rw [this]
  rfl
theorem valC_of {L : List Vs} (h : valC L = 0) : ∀ q, q < L.length → errC L q = 0 := by
  intro q
  induction q using Nat.strongRecOn with
  | _ q ih =>
    intro hq
    apply Classical.byContradiction
    intro he
    have := valC_bad (L := L) (i := q) (fun x hx => ih x hx (by omega)) hq he
    exact he (this ▸ h)
/-- Whether a span holds at a commit. -/
def hldC (f t c : Int) : Bool := decide (f ≤ c) && (decide (c < t) || decide (t = 0))
/-- The first version from i on that holds at c. -/
def fndF (c : Int) : List Vs → Nat → Option Nat
  | [], _ => none
  | x :: L, i => if hldC x.n x.r c = true then some i else fndF c L (i + 1)
def fndC (L : List Vs) (c : Int) : Option Nat := fndF c L 0
def fndI (o : Option Nat) : Int := match o with | some i => i | none => 0
theorem fndF_hit {c : Int} : ∀ {L : List Vs} {i j : Nat}, (∀ q, q < j → hldC (L.getD q Vs.z).n (L.getD q Vs.z).r c = false) → j < L.length → hldC (L.getD j Vs.z).n (L.getD j Vs.z).r c = true → fndF c L i = some (i + j)
  | [], _, _, _, h, _ => by simp at h
  | x :: L, i, 0, _, _, h => by
    have h : hldC x.n x.r c = true := by simpa [List.getD] using h
    unfold fndF
    rw [if_pos h]
    rfl
  | x :: L, i, j + 1, h, hj, hh => by
    have h0 : hldC x.n x.r c = false := by simpa [List.getD] using h 0 (by omega)
    unfold fndF
    rw [h0]
    simp only [Bool.false_eq_true, if_false]
    have := fndF_hit (c := c) (L := L) (i := i + 1) (j := j) (fun q hq => by simpa [List.getD] using h (q + 1) (by omega)) (by simp at hj; omega) (by simpa [List.getD] using hh)
    rw [this]
    congr 1
    omega
theorem fndF_miss {c : Int} : ∀ {L : List Vs} {i : Nat}, (∀ q, q < L.length → hldC (L.getD q Vs.z).n (L.getD q Vs.z).r c = false) → fndF c L i = none
  | [], _, _ => rfl
  | x :: L, i, h => by
    have h0 : hldC x.n x.r c = false := by simpa [List.getD] using h 0 (by simp)
    unfold fndF
    rw [h0]
    simp only [Bool.false_eq_true, if_false]
    exact fndF_miss (fun q hq => by simpa [List.getD] using h (q + 1) (by simp; omega))
theorem fndC_hit {L : List Vs} {c : Int} {j : Nat} (h : ∀ q, q < j → hldC (L.getD q Vs.z).n (L.getD q Vs.z).r c = false) (hj : j < L.length) (hh : hldC (L.getD j Vs.z).n (L.getD j Vs.z).r c = true) : fndC L c = some j := by
  have := fndF_hit (i := 0) h hj hh
  rw [Nat.zero_add] at this
  exact this
theorem fndC_miss {L : List Vs} {c : Int} (h : ∀ q, q < L.length → hldC (L.getD q Vs.z).n (L.getD q Vs.z).r c = false) : fndC L c = none := fndF_miss h
end Go.Proofs.Ytakickggpfbafaa
