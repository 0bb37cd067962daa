/- Count-Min sketches as plain numbers: columns, cells, errors, insertions, merges, estimates. -/
import Derived.Test.YtlbbmnjhohfbkaaTally
import Derived.Test.YtlbbmnjhohfbkaaMixRow
import Derived.Test.YtlbbmnjhohfbkaaTabIn
import Derived.Test.YtlbbmnjhohfbkaaIntRow
namespace Go.Proofs.Ytlbbmnjhohfbkaa
open Go.RowKit
set_option linter.unusedVariables false
set_option linter.unusedSimpArgs false
/-- A sketch: depth, size, seed, cells, flag. -/
structure CM where
  D : Int
  S : Int
  x : Int
  L : List Int
  s : Bool
def CM.none : CM := ⟨0, 0, 0, [], false⟩
/-- Depth and size are within their limits. -/
def shpB (D S : Int) : Bool := decide (1 ≤ D) && decide (D ≤ 8) && (decide (1 ≤ S) && decide (S ≤ 64))
theorem shpB_iff (D S : Int) : shpB D S = true ↔ 1 ≤ D ∧ D ≤ 8 ∧ 1 ≤ S ∧ S ≤ 64 := by
  unfold shpB
  simp [and_assoc]
/-- A cell is within its limits. -/
def celB (n : Int) : Bool := decide (0 ≤ n) && decide (n ≤ 4294967295)
theorem celB_iff (n : Int) : celB n = true ↔ 0 ≤ n ∧ n ≤ 4294967295 := by
  unfold celB
  simp
/-- The error of a sketch. -/
def cmE (D S : Int) (L : List Int) : Int := if shpB D S = false then 5 else if (L.length : Int) ≠ D * S then 18 else if L.all celB = true then 0 else 5
theorem cmE_ok {D S : Int} {L : List Int} (h : cmE D S L = 0) : (1 ≤ D ∧ D ≤ 8 ∧ 1 ≤ S ∧ S ≤ 64) ∧ (L.length : Int) = D * S ∧ ∀ n ∈ L, 0 ≤ n ∧ n ≤ 4294967295 := by
  unfold cmE at h
  by_cases h1 : shpB D S = false
  · rw [if_pos h1] at h; cases h
  · rw [if_neg h1] at h
    by_cases h2 : (L.length : Int) ≠ D * S
    · rw [if_pos h2] at h; cases h
    · rw [if_neg h2] at h
      by_cases h3 : L.all celB = true
      · refine ⟨(shpB_iff D S).1 (by simpa using h1), by omega, fun n hn => (celB_iff n).1 (List.all_eq_true.1 h3 n hn)⟩
      · rw [if_neg h3] at h; cases h
theorem cmE_mk {D S : Int} {L : List Int} (h1 : 1 ≤ D ∧ D ≤ 8 ∧ 1 ≤ S ∧ S ≤ 64) (h2 : (L.length : Int) = D * S) (h3 : ∀ n ∈ L, 0 ≤ n ∧ n ≤ 4294967295) : cmE D S L = 0 := by
  unfold cmE
  rw [if_neg (by rw [(shpB_iff D S).2 h1]; simp), if_neg (by omega), if_pos (List.all_eq_true.2 fun n hn => (celB_iff n).2 (h3 n hn))]
/-- The error of a column; the column. -/
def colE (r S : Int) (k : ByteArray) : Int := if r < 0 ∨ 7 < r ∨ S < 1 ∨ 64 < S then 5 else if keyB (byt k) = false then 7 else 0
def hashC (x r : Int) (k : ByteArray) : Int := hashI (tab (rowI x r) 256) k
def colI (x r S : Int) (k : ByteArray) : Int := hashC x r k % S
def colV (x r S : Int) (k : ByteArray) : Int := if colE r S k = 0 then colI x r S k else 0
theorem hashC_bd (x r : Int) (k : ByteArray) : 0 ≤ hashC x r k ∧ hashC x r k ≤ 18446744073709551615 := hashI_bd _ k
theorem colI_bd (x r S : Int) (k : ByteArray) (h : 1 ≤ S) : 0 ≤ colI x r S k ∧ colI x r S k < S := ⟨Int.emod_nonneg _ (by omega), Int.emod_lt_of_pos _ (by omega)⟩
theorem rowI_bd (x r : Int) (h0 : 0 ≤ x) (h1 : x ≤ 18446744073709551615) : 0 ≤ rowI x r ∧ rowI x r ≤ 18446744073709551615 := by
  unfold rowI
  have hb := wrap_bd (IntKind.u64.wrap (IntKind.u64.wrap r + 1) * 15074714826142052245)
  have hx := xor_bd x _ h0 h1 hb.1 hb.2
  exact mixI_bd _ hx.1 hx.2
/-- The cell of a key in a row. -/
def celI (x S : Int) (k : ByteArray) (r : Nat) : Nat := ((r : Int) * S + colI x r S k).toNat
theorem celI_eq (x S : Int) (k : ByteArray) (r : Nat) (h : 1 ≤ S) : ((celI x S k r : Nat) : Int) = (r : Int) * S + colI x r S k := by
  unfold celI
  have := colI_bd x r S k h
  have : 0 ≤ (r : Int) * S := Int.mul_nonneg (by omega) (by omega)
  omega
theorem celI_lt {x D S : Int} {k : ByteArray} {r n : Nat} (h : 1 ≤ S) (hr : (r : Int) < D) (hn : (n : Int) = D * S) : celI x S k r < n := by
  have e := celI_eq x S k r h
  have c := colI_bd x r S k h
  have m : ((r : Int) + 1) * S ≤ D * S := Int.mul_le_mul_of_nonneg_right (by omega) (by omega)
  have d : ((r : Int) + 1) * S = (r : Int) * S + S := by rw [Int.add_mul]; omega
  omega
/-- The cells and the flag behind k rows of an insertion. -/
def insUp (x S : Int) (k : ByteArray) (n : Int) (L : List Int) (s : Bool) : Nat → List Int × Bool
  | 0 => (L, s)
  | r + 1 => ((insUp x S k n L s r).1.set (celI x S k r) (sumT ((insUp x S k n L s r).1.getD (celI x S k r) 0) n), (insUp x S k n L s r).2 || sumF ((insUp x S k n L s r).1.getD (celI x S k r) 0) n)
theorem insUp_len (x S : Int) (k : ByteArray) (n : Int) (L : List Int) (s : Bool) : ∀ r, (insUp x S k n L s r).1.length = L.length
  | 0 => rfl
  | r + 1 => by rw [insUp, List.length_set, insUp_len x S k n L s r]
theorem sumT_bd (T U : Int) : 0 ≤ sumT T U ∧ sumT T U ≤ 4294967295 := by
  unfold sumT satN nat0
  split <;> omega
/-- An insertion into a sketch. -/
def cmIns (c : CM) (k : ByteArray) (n : Int) : CM :=
  if cmE c.D c.S c.L ≠ 0 then CM.none else if itemE (byt k) n ≠ 0 then CM.none else ⟨c.D, c.S, c.x, (insUp c.x c.S k n c.L c.s c.D.toNat).1, (insUp c.x c.S k n c.L c.s c.D.toNat).2⟩
def cmInsE (c : CM) (k : ByteArray) (n : Int) : Int := if cmE c.D c.S c.L ≠ 0 then cmE c.D c.S c.L else itemE (byt k) n
/-- The first k cells of a merge; its flag behind them. -/
def merL (A B : List Int) (k : Nat) : List Int := (List.range k).map fun j => sumT (A.getD j 0) (B.getD j 0)
def merF (A B : List Int) (s : Bool) : Nat → Bool
  | 0 => s
  | k + 1 => merF A B s k || sumF (A.getD k 0) (B.getD k 0)
theorem merL_len (A B : List Int) (k : Nat) : (merL A B k).length = k := by simp [merL]
theorem merL_succ (A B : List Int) (k : Nat) : merL A B (k + 1) = merL A B k ++ [sumT (A.getD k 0) (B.getD k 0)] := by simp [merL, List.range_succ]
/-- The error of a merge; a merge. -/
def cmMerE (a b : CM) : Int := if cmE a.D a.S a.L ≠ 0 then cmE a.D a.S a.L else if cmE b.D b.S b.L ≠ 0 then cmE b.D b.S b.L else if a.D ≠ b.D ∨ a.S ≠ b.S ∨ a.x ≠ b.x then 10 else 0
def cmMer (a b : CM) : CM := if cmMerE a b ≠ 0 then CM.none else ⟨a.D, a.S, a.x, merL a.L b.L b.L.length, merF a.L b.L (a.s || b.s) b.L.length⟩
/-- The cells of a merge, k of them done in place. -/
def merP (A B : List Int) (k : Nat) : List Int := merL A B k ++ A.drop k
theorem merP_len {A B : List Int} {k : Nat} (h : k ≤ A.length) : (merP A B k).length = A.length := by simp [merP, merL_len]; omega
theorem merP_at {A B : List Int} {k : Nat} (h : k < A.length) : (merP A B k).getD k 0 = A.getD k 0 := by
  unfold merP
  simp only [List.getD]
  rw [List.getElem?_append_right (by rw [merL_len]; exact Nat.le_refl _), merL_len, Nat.sub_self, List.getElem?_drop, Nat.add_zero]
theorem merP_step {A B : List Int} {k : Nat} (h : k < A.length) : (merP A B k).set k (sumT (A.getD k 0) (B.getD k 0)) = merP A B (k + 1) := by
  unfold merP
  rw [List.set_append_right _ _ (by rw [merL_len]; exact Nat.le_refl _), merL_len, Nat.sub_self, merL_succ, List.append_assoc]
  have : A.drop k = A.getD k 0 :: A.drop (k + 1) := by
    rw [List.drop_eq_getElem_cons h]
    simp [List.getD, h]
  rw [this]
  rfl
theorem merP_all {A B : List Int} (h : A.length = B.length) : merP A B B.length = merL A B B.length := by
  unfold merP
  rw [List.drop_eq_nil_of_le (by omega), List.append_nil]
/-- The least of the cells of a key, behind k rows. -/
def estUp (x S : Int) (k : ByteArray) (L : List Int) : Nat → Int
  | 0 => 4294967295
  | r + 1 => min (estUp x S k L r) (L.getD (celI x S k r) 0)
def cmEstE (c : CM) (k : ByteArray) : Int := if cmE c.D c.S c.L ≠ 0 then cmE c.D c.S c.L else if keyB (byt k) = false then 7 else 0
def cmEst (c : CM) (k : ByteArray) : Int := if cmEstE c k ≠ 0 then 0 else estUp c.x c.S k c.L c.D.toNat
end Go.Proofs.Ytlbbmnjhohfbkaa
