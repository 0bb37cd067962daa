/- Directories as numbers: validity, what names denote. No program of its own. -/
import Derived.Test.YtpehbfghajlgmaaGreatBgM
import Derived.Test.YtpehbfghajlgmaaGreatRkO
import Derived.Test.YtpehbfghajlgmaaGreatValid
namespace Go.Proofs.YtpehbfghajlgmaaGreat
open Go.RowKit
set_option linter.unusedVariables false
set_option linter.unusedSimpArgs false
/-- Whether a span holds at a commit. -/
def hldB (f t c : Int) : Bool := decide (f ≤ c) && (decide (c < t) || decide (t = 0))
/-- What is wrong with binding i, beside the one before. -/
def errB (L : List Bg) (i : Nat) : Int :=
  if nameB (byt (L.getD i Bg.z).n) = false then 6
  else if (L.getD i Bg.z).r < 1 ∨ (L.getD i Bg.z).k < 1 ∨ (L.getD i Bg.z).s < 0 then 5
  else if (L.getD i Bg.z).s ≠ 0 ∧ (L.getD i Bg.z).s ≤ (L.getD i Bg.z).k then 19
  else if 0 < i ∧ (lessK (L.getD i Bg.z).n (L.getD (i - 1) Bg.z).n = true ∨ ((L.getD (i - 1) Bg.z).n = (L.getD i Bg.z).n ∧ ((L.getD i Bg.z).k ≤ (L.getD (i - 1) Bg.z).k ∨ (L.getD (i - 1) Bg.z).s = 0 ∨ (L.getD i Bg.z).k < (L.getD (i - 1) Bg.z).s))) then 19 else 0
/-- Two bindings of one object at one commit. -/
def dupB (x y : Bg) : Bool := x.r == y.r && (hldB y.k y.s x.k || hldB x.k x.s y.k)
/-- A pair of the first q bindings stands so. -/
def DupTo (L : List Bg) (q : Nat) : Prop := ∃ i k, k < i ∧ i < q ∧ dupB (L.getD i Bg.z) (L.getD k Bg.z) = true
def valBF (L : List Bg) (i : Nat) : Nat → Int
  | 0 => 0
  | f + 1 => if errB L i = 0 then valBF L (i + 1) f else errB L i
open Classical in
/-- The error of Validate. -/
noncomputable def valB (L : List Bg) : Int := if valBF L 0 L.length ≠ 0 then valBF L 0 L.length else if DupTo L L.length then 9 else 0
theorem valBF_step {L : List Bg} : ∀ {i : Nat} (j : Nat), (∀ q, i ≤ q → q < i + j → errB L q = 0) → ∀ f, valBF L i (j + f) = valBF L (i + j) f
  | i, 0, _, f => by rw [Nat.zero_add, Nat.add_zero]
  | i, j + 1, h, f => by
    rw [show j + 1 + f = (j + f) + 1 by omega, valBF, if_pos (h i (Nat.le_refl _) (by omega)), valBF_step j (fun q h1 h2 => h q (by omega) (by omega)) f]
    congr 1
    omega
theorem valBF_bad {L : List Bg} {i : Nat} (h : ∀ q, q < i → errB L q = 0) (hi : i < L.length) (he : errB L i ≠ 0) : valBF L 0 L.length = errB L i := by
  obtain ⟨f, hf⟩ : ∃ f, L.length = i + (f + 1) := ⟨L.length - i - 1, by omega⟩
  rw [hf, valBF_step i (fun q _ h2 => h q (by omega)), Nat.zero_add, valBF, if_neg he]
theorem valBF_ok {L : List Bg} (h : ∀ q, q < L.length → errB L q = 0) : valBF L 0 L.length = 0 := by
  have := valBF_step (L := L) (i := 0) L.length (fun q _ h2 => h q (by omega)) 0
  rw [Nat.add_zero] at this
  rw [this]
  rfl
theorem valB_bad {L : List Bg} {i : Nat} (h : ∀ q, q < i → errB L q = 0) (hi : i < L.length) (he : errB L i ≠ 0) : valB L = errB L i := by
  have := valBF_bad h hi he
  unfold valB
  rw [this, if_pos he]
theorem valB_dup {L : List Bg} (h : ∀ q, q < L.length → errB L q = 0) (hd : DupTo L L.length) : valB L = 9 := by
  unfold valB
  rw [valBF_ok h, if_neg (by simp), if_pos hd]
theorem valB_ok {L : List Bg} (h : ∀ q, q < L.length → errB L q = 0) (hd : ¬ DupTo L L.length) : valB L = 0 := by
  unfold valB
  rw [valBF_ok h, if_neg (by simp), if_neg hd]
theorem valB_of {L : List Bg} (h : valB L = 0) : (∀ q, q < L.length → errB L q = 0) ∧ ¬ DupTo L L.length := by
  have h1 : ∀ q, q < L.length → errB L q = 0 := by
    intro q
    induction q using Nat.strongRecOn with
    | _ q ih =>
      intro hq
      apply Classical.byContradiction
      intro he
      have := valB_bad (L := L) (i := q) (fun x hx => ih x hx (by omega)) hq he
      exact he (this ▸ h)
  refine ⟨h1, fun hd => ?_⟩
  have := valB_dup h1 hd
  omega
theorem DupTo.step {L : List Bg} {q : Nat} (h : ¬ DupTo L q) (h2 : ∀ k, k < q → dupB (L.getD q Bg.z) (L.getD k Bg.z) = false) : ¬ DupTo L (q + 1) := by
  rintro ⟨i, k, hk, hi, hd⟩
  rcases Nat.lt_or_ge i q with h' | h'
  · exact h ⟨i, k, hk, h', hd⟩
  · obtain rfl : i = q := by omega
    rw [h2 k hk] at hd
    cases hd
/-- The first binding of a name that holds at a commit. -/
def lokB (L : List Bg) (nm : ByteArray) (c : Int) : Option Nat := L.findIdx? (fun x => decide (x.n = nm) && hldB x.k x.s c)
def lokO (L : List Bg) (nm : ByteArray) (c : Int) : Int := match lokB L nm c with | some i => (L.getD i Bg.z).r | none => 0
/-- The open binding of a name. -/
def opnB (L : List Bg) (nm : ByteArray) : Option Nat := L.findIdx? (fun x => decide (x.n = nm) && x.s == 0)
def opnI (o : Option Nat) : Int := match o with | some i => i | none => -1
/-- Whether a commit is less than a From or a To. -/
def lateB (L : List Bg) (c : Int) : Bool := L.any (fun x => decide (c < x.k) || decide (c < x.s))
theorem fib_hit {p : Bg → Bool} {L : List Bg} {q : Nat} (h : ∀ x, x < q → p (L.getD x Bg.z) = false) (hq : q < L.length) (hh : p (L.getD q Bg.z) = true) : L.findIdx? p = some q := by
  rw [List.findIdx?_eq_some_iff_getElem]
  refine ⟨hq, by simpa [List.getD, hq] using hh, fun j hj => ?_⟩
  have := h j hj
  simp [List.getD, show j < L.length by omega] at this
  simp [this]
theorem fib_miss {p : Bg → Bool} {L : List Bg} (h : ∀ x, x < L.length → p (L.getD x Bg.z) = false) : L.findIdx? p = none := by
  rw [List.findIdx?_eq_none_iff]
  intro x hx
  obtain ⟨j, hj, rfl⟩ := List.mem_iff_getElem.1 hx
  simpa [List.getD, hj] using h j hj
theorem any_hit {p : Bg → Bool} {L : List Bg} {q : Nat} (hq : q < L.length) (hh : p (L.getD q Bg.z) = true) : L.any p = true :=
  List.any_eq_true.2 ⟨L.getD q Bg.z, by simp [List.getD, hq], hh⟩
theorem any_miss {p : Bg → Bool} {L : List Bg} (h : ∀ x, x < L.length → p (L.getD x Bg.z) = false) : L.any p = false := by
  rw [List.any_eq_false]
  intro x hx
  obtain ⟨j, hj, rfl⟩ := List.mem_iff_getElem.1 hx
  have := h j hj
  simpa [List.getD, hj] using this
end Go.Proofs.YtpehbfghajlgmaaGreat
