/- What is read as a Count-Min sketch: plain numbers. -/
import Derived.Test.YtlbbmnjhohfbkaaCmRdr
namespace Go.Proofs.Ytlbbmnjhohfbkaa
open Go.RowKit
set_option linter.unusedVariables false
set_option linter.unusedSimpArgs false
/-- What is left behind k numbers; whether one of them was wrong; the numbers. -/
def rests (R : List Int) : Nat → List Int
  | 0 => R
  | k + 1 => restU (rests R k)
def failN (f : Bool) (R : List Int) : Nat → Bool
  | 0 => f
  | k + 1 => failN f R k || (decU (rests R k)).2.2 != 0
def valsN (R : List Int) (k : Nat) : List Int := (List.range k).map fun j => (decU (rests R j)).1
theorem valsN_len (R : List Int) (k : Nat) : (valsN R k).length = k := by simp [valsN]
theorem valsN_succ (R : List Int) (k : Nat) : valsN R (k + 1) = valsN R k ++ [(decU (rests R k)).1] := by simp [valsN, List.range_succ]
theorem rests_byt {R : List Int} (h : Byt R) : ∀ k, Byt (rests R k)
  | 0 => h
  | k + 1 => (rests_byt h k).drop _
/-- The cells, k of them read. -/
def cellsN (R : List Int) (n k : Nat) : List Int := valsN R k ++ List.replicate (n - k) 0
theorem cellsN_len {R : List Int} {n k : Nat} (h : k ≤ n) : (cellsN R n k).length = n := by simp [cellsN, valsN_len]; omega
theorem cellsN_set {R : List Int} {n k : Nat} (h : k < n) : (cellsN R n k).set k (decU (rests R k)).1 = cellsN R n (k + 1) := by
  unfold cellsN
  have e : n - k = (n - (k + 1)) + 1 := by omega
  rw [List.set_append_right _ _ (by rw [valsN_len]; exact Nat.le_refl _), valsN_len, Nat.sub_self, e, List.replicate_succ, valsN_succ, List.append_assoc]
  rfl
theorem cellsN_all (R : List Int) (n : Nat) : cellsN R n n = valsN R n := by unfold cellsN; rw [Nat.sub_self, List.replicate_zero, List.append_nil]
theorem cellsN_zero (R : List Int) (n : Nat) : cellsN R n 0 = List.replicate n 0 := by unfold cellsN; rw [Nat.sub_zero]; rfl
/-- The parts of an encoding. -/
def dD (L : List Int) : Int := (decU L).1
def dS (L : List Int) : Int := (decU (restU L)).1
def dX (L : List Int) : Int := (decW (restU (restU L))).1
def dR (L : List Int) : List Int := restW (restU (restU L))
def dN (L : List Int) : Nat := (dD L * dS L).toNat
def dF (L : List Int) : Bool := ((false || (decU L).2.2 != 0) || (decU (restU L)).2.2 != 0) || (decW (restU (restU L))).2.2 != 0
def dG (L : List Int) : Int := (decU (rests (dR L) (dN L))).1
def dOk (L : List Int) : Bool := shpB (dD L) (dS L) && !failN (dF L) (dR L) (dN L + 1) && (rests (dR L) (dN L + 1)).isEmpty && decide (dG L ≤ 1) && (valsN (dR L) (dN L)).all celB
/-- What is read, and the error. -/
def decC (L : List Int) : CM := if dOk L = true then ⟨dD L, dS L, dX L, valsN (dR L) (dN L), dG L == 1⟩ else CM.none
def decE (L : List Int) : Int := if dOk L = true then 0 else 2
theorem dec_no {L : List Int} (h : dOk L = false) : decC L = CM.none ∧ decE L = 2 := by
  unfold decC decE
  rw [if_neg (by rw [h]; simp), if_neg (by rw [h]; simp)]
  exact ⟨rfl, rfl⟩
theorem dec_yes {L : List Int} (h : dOk L = true) : decC L = ⟨dD L, dS L, dX L, valsN (dR L) (dN L), dG L == 1⟩ ∧ decE L = 0 := by
  unfold decC decE
  rw [if_pos h, if_pos h]
  exact ⟨rfl, rfl⟩
theorem dOk_shp {L : List Int} (h : shpB (dD L) (dS L) = false) : dOk L = false := by unfold dOk; rw [h]; simp
theorem dOk_fail {L : List Int} (h : failN (dF L) (dR L) (dN L + 1) = true) : dOk L = false := by unfold dOk; rw [h]; simp
theorem dOk_rest {L : List Int} (h : rests (dR L) (dN L + 1) ≠ []) : dOk L = false := by
  unfold dOk
  have : (rests (dR L) (dN L + 1)).isEmpty = false := by simpa using h
  rw [this]; simp
theorem dOk_flag {L : List Int} (h : 1 < dG L) : dOk L = false := by
  unfold dOk
  have : decide (dG L ≤ 1) = false := by simp; omega
  rw [this]; simp
theorem dOk_cel {L : List Int} (h : (valsN (dR L) (dN L)).all celB = false) : dOk L = false := by unfold dOk; rw [h]; simp
theorem dOk_mk {L : List Int} (h1 : shpB (dD L) (dS L) = true) (h2 : failN (dF L) (dR L) (dN L + 1) = false) (h3 : rests (dR L) (dN L + 1) = []) (h4 : dG L ≤ 1) (h5 : (valsN (dR L) (dN L)).all celB = true) : dOk L = true := by
  unfold dOk
  rw [h1, h2, h3, h5]
  simp [h4]
/-- A flag, once set, stays. -/
theorem failN_mono {f : Bool} {R : List Int} {j k : Nat} (h : failN f R j = true) (hjk : j ≤ k) : failN f R k = true := by
  induction k with
  | zero => obtain rfl : j = 0 := by omega
            exact h
  | succ k ih =>
    by_cases hk : j ≤ k
    · show (failN f R k || _) = true
      rw [ih hk]; rfl
    · obtain rfl : j = k + 1 := by omega
      exact h
theorem failN_true (R : List Int) (k : Nat) : failN true R k = true := failN_mono (j := 0) rfl (Nat.zero_le _)
theorem dN_eq {L : List Int} (h : shpB (dD L) (dS L) = true) : dD L * dS L = (dN L : Int) ∧ dN L ≤ 512 := by
  have := shp_bd h
  unfold dN
  omega
theorem cmE_vals {L : List Int} (h : shpB (dD L) (dS L) = true) : cmE (dD L) (dS L) (valsN (dR L) (dN L)) = if (valsN (dR L) (dN L)).all celB = true then 0 else 5 := by
  unfold cmE
  rw [if_neg (by rw [h]; simp), if_neg (by rw [valsN_len, (dN_eq h).1]; simp)]
end Go.Proofs.Ytlbbmnjhohfbkaa
