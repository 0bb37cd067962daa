/- The rank of a key: pure. -/
import Derived.Test.YtdifilhfmbpalaaDoorRkN
namespace Go.Proofs.YtdifilhfmbpalaaDoor
open Go.RowKit
set_option linter.unusedVariables false
set_option linter.unusedSimpArgs false
/-- How many keys of a level are at most k. -/
def cntK (k : ByteArray) : List ByteArray → Nat
  | [] => 0
  | x :: l => (if lessK k x = true then 0 else 1) + cntK k l
/-- The rank of k in the levels from i on. -/
def rnkN (k : ByteArray) : Nat → List (List ByteArray) → Nat
  | _, [] => 0
  | i, l :: L => cntK k l * 2 ^ i + rnkN k (i + 1) L
theorem cntK_le (k : ByteArray) : ∀ l : List ByteArray, cntK k l ≤ l.length
  | [] => Nat.le_refl _
  | x :: l => by
    have := cntK_le k l
    simp only [cntK, List.length_cons]
    split <;> omega
theorem cntK_app (k : ByteArray) : ∀ l m : List ByteArray, cntK k (l ++ m) = cntK k l + cntK k m
  | [], m => by simp [cntK]
  | x :: l, m => by simp only [List.cons_append, cntK, cntK_app k l m]; omega
theorem cntK_perm {k : ByteArray} {l m : List ByteArray} (h : l.Perm m) : cntK k l = cntK k m := by
  induction h with
  | nil => rfl
  | cons x _ ih => simp only [cntK, ih]
  | swap x y l => simp only [cntK]; omega
  | trans _ _ ih1 ih2 => exact ih1.trans ih2
theorem cntK_all {k : ByteArray} : ∀ {l : List ByteArray}, (∀ x ∈ l, lessK k x = false) → cntK k l = l.length
  | [], _ => rfl
  | x :: l, h => by
    have h1 := cntK_all (l := l) (fun y hy => h y (by simp [hy]))
    simp only [cntK, List.length_cons, h1]
    rw [if_neg (by rw [h x (by simp)]; simp)]
    omega
theorem cntK_none {k : ByteArray} : ∀ {l : List ByteArray}, (∀ x ∈ l, lessK k x = true) → cntK k l = 0
  | [], _ => rfl
  | x :: l, h => by
    have h1 := cntK_none (l := l) (fun y hy => h y (by simp [hy]))
    simp only [cntK, h1]
    rw [if_pos (h x (by simp))]
/-- In an ascending level it is where the greater keys begin. -/
theorem cntK_of {k : ByteArray} {l : List ByteArray} {m : Nat} (hm : m ≤ l.length) (h1 : ∀ i, i < m → lessK k (l.getD i ByteArray.empty) = false) (h2 : ∀ i, m ≤ i → i < l.length → lessK k (l.getD i ByteArray.empty) = true) : cntK k l = m := by
  have e : l = l.take m ++ l.drop m := (List.take_append_drop m l).symm
  rw [e, cntK_app, cntK_all (l := l.take m), cntK_none (l := l.drop m), List.length_take]
  · omega
  · intro x hx
    obtain ⟨i, hi, rfl⟩ := List.getElem_of_mem hx
    rw [List.length_drop] at hi
    have h := h2 (m + i) (by omega) (by omega)
    simp only [List.getD] at h
    rw [List.getElem?_eq_getElem (by omega)] at h
    rw [List.getElem_drop]
    exact h
  · intro x hx
    obtain ⟨i, hi, rfl⟩ := List.getElem_of_mem hx
    rw [List.length_take] at hi
    have h := h1 i (by omega)
    simp only [List.getD] at h
    rw [List.getElem?_eq_getElem (by omega)] at h
    rw [List.getElem_take]
    exact h
theorem rnkN_le (k : ByteArray) : ∀ (L : List (List ByteArray)) (i : Nat), rnkN k i L ≤ insN i L
  | [], _ => Nat.le_refl _
  | l :: L, i => by
    have h1 := rnkN_le k L (i + 1)
    have h2 := Nat.mul_le_mul_right (2 ^ i) (cntK_le k l)
    simp only [rnkN, insN]
    omega
theorem rnkN_app (k : ByteArray) : ∀ (L M : List (List ByteArray)) (i : Nat), rnkN k i (L ++ M) = rnkN k i L + rnkN k (i + L.length) M
  | [], M, i => by simp [rnkN]
  | l :: L, M, i => by
    have := rnkN_app k L M (i + 1)
    simp only [List.cons_append, rnkN, this, List.length_cons]
    rw [show i + 1 + L.length = i + (L.length + 1) by omega]
    omega
theorem rnkN_take {k : ByteArray} {L : List (List ByteArray)} {j : Nat} (h : j < L.length) : rnkN k 0 (L.take (j + 1)) = rnkN k 0 (L.take j) + cntK k (L.getD j []) * 2 ^ j := by
  rw [take_getD (d := []) h, rnkN_app]
  simp [rnkN, List.length_take, Nat.min_eq_left (Nat.le_of_lt h)]
theorem rnkN_take_le {k : ByteArray} {L : List (List ByteArray)} (j : Nat) : rnkN k 0 (L.take j) ≤ rnkN k 0 L := by
  have h := rnkN_app k (L.take j) (L.drop j) 0
  rw [List.take_append_drop] at h
  omega
end Go.Proofs.YtdifilhfmbpalaaDoor
