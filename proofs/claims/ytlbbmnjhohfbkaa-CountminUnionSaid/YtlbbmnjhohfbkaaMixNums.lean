/- Plain numbers: Mix on words, the table of a seed, the hash of a key; Mix is one to one. No program. -/
import Derived.WalkKit
import Derived.Laws.BitsAllLaws
namespace Go.Proofs.Ytlbbmnjhohfbkaa
open Go.RowKit
set_option linter.unusedVariables false
set_option linter.unusedSimpArgs false
/-- x ^= x >> k, by its divisor. -/
def xs (d x : Int) : Int := bits .xor .u64 x (x / d)
def mul1 (x : Int) : Int := IntKind.u64.wrap (x * 13787848793156543929)
def mul2 (x : Int) : Int := IntKind.u64.wrap (x * 10723151780598845931)
def mixI (x : Int) : Int := xs 2147483648 (mul2 (xs 134217728 (mul1 (xs 1073741824 x))))
theorem wrap_bd (x : Int) : 0 ≤ IntKind.u64.wrap x ∧ IntKind.u64.wrap x ≤ 18446744073709551615 := by
  rw [IntKind.wrap_u64]; omega
theorem xor_bd (a b : Int) (a0 : 0 ≤ a) (a1 : a ≤ 18446744073709551615) (b0 : 0 ≤ b) (b1 : b ≤ 18446744073709551615) : 0 ≤ bits .xor .u64 a b ∧ bits .xor .u64 a b ≤ 18446744073709551615 := by
  rw [u64_xor a b a0 (by omega) b0 (by omega)]
  have h : a.toNat ^^^ b.toNat < 2 ^ 64 := Nat.xor_lt_two_pow (by omega) (by omega)
  omega
theorem xs_nat (k x : Nat) (h : x < 18446744073709551616) : xs ((2 ^ k : Nat) : Int) (x : Int) = ((x ^^^ (x >>> k) : Nat) : Int) := by
  have h1 : x / 2 ^ k ≤ x := Nat.div_le_self _ _
  have e : (x : Int) / ((2 ^ k : Nat) : Int) = ((x / 2 ^ k : Nat) : Int) := by simp
  unfold xs
  rw [e, u64_xor_nat x (x / 2 ^ k) h (by omega), Nat.shiftRight_eq_div_pow]
theorem xs_bd (k : Nat) (x : Int) (x0 : 0 ≤ x) (x1 : x ≤ 18446744073709551615) : 0 ≤ xs ((2 ^ k : Nat) : Int) x ∧ xs ((2 ^ k : Nat) : Int) x ≤ 18446744073709551615 := by
  obtain ⟨n, rfl⟩ : ∃ n : Nat, x = (n : Int) := ⟨x.toNat, by omega⟩
  rw [xs_nat k n (by omega)]
  have h : n ^^^ (n >>> k) < 2 ^ 64 := Nat.xor_lt_two_pow (by omega) (by rw [Nat.shiftRight_eq_div_pow]; exact Nat.lt_of_le_of_lt (Nat.div_le_self _ _) (by omega))
  omega
theorem mixI_bd (x : Int) (x0 : 0 ≤ x) (x1 : x ≤ 18446744073709551615) : 0 ≤ mixI x ∧ mixI x ≤ 18446744073709551615 := by
  unfold mixI
  have h := wrap_bd (xs 134217728 (mul1 (xs 1073741824 x)) * 10723151780598845931)
  exact xs_bd 31 _ h.1 h.2
/-- A word's bits from the top down: a shift to the right is undone. -/
theorem xsh_inj (k x y : Nat) (hk : 0 < k) (hx : x < 2 ^ 64) (hy : y < 2 ^ 64) (h : x ^^^ (x >>> k) = y ^^^ (y >>> k)) : x = y := by
  have step : ∀ d i : Nat, 64 ≤ i + d → x.testBit i = y.testBit i := by
    intro d
    induction d with
    | zero =>
      intro i hi
      rw [Nat.testBit_lt_two_pow (Nat.lt_of_lt_of_le hx (Nat.pow_le_pow_right (by decide) (by omega))), Nat.testBit_lt_two_pow (Nat.lt_of_lt_of_le hy (Nat.pow_le_pow_right (by decide) (by omega)))]
    | succ d ih =>
      intro i hi
      have hb := congrArg (fun n : Nat => n.testBit i) h
      simp only [Nat.testBit_xor, Nat.testBit_shiftRight] at hb
      have hu := ih (k + i) (by omega)
      rw [hu] at hb
      revert hb
      cases x.testBit i <;> cases y.testBit i <;> cases y.testBit (k + i) <;> simp
  exact Nat.eq_of_testBit_eq fun i => step 64 i (by omega)
theorem xs_inj (k : Nat) (x y : Int) (hk : 0 < k) (x0 : 0 ≤ x) (x1 : x ≤ 18446744073709551615) (y0 : 0 ≤ y) (y1 : y ≤ 18446744073709551615) (h : xs ((2 ^ k : Nat) : Int) x = xs ((2 ^ k : Nat) : Int) y) : x = y := by
  obtain ⟨n, rfl⟩ : ∃ n : Nat, x = (n : Int) := ⟨x.toNat, by omega⟩
  obtain ⟨m, rfl⟩ : ∃ m : Nat, y = (m : Int) := ⟨y.toNat, by omega⟩
  rw [xs_nat k n (by omega), xs_nat k m (by omega)] at h
  have := xsh_inj k n m hk (by omega) (by omega) (by omega)
  omega
theorem mul_inj (c d x y : Int) (hcd : c * d % 18446744073709551616 = 1) (x0 : 0 ≤ x) (x1 : x ≤ 18446744073709551615) (y0 : 0 ≤ y) (y1 : y ≤ 18446744073709551615) (h : IntKind.u64.wrap (x * c) = IntKind.u64.wrap (y * c)) : x = y := by
  rw [IntKind.wrap_u64, IntKind.wrap_u64] at h
  have key : ∀ z : Int, 0 ≤ z → z ≤ 18446744073709551615 → (z * c % 18446744073709551616) * d % 18446744073709551616 = z := by
    intro z z0 z1
    rw [Int.mul_emod, Int.emod_emod_of_dvd _ (Int.dvd_refl _), ← Int.mul_emod, Int.mul_assoc, Int.mul_emod, hcd, Int.mul_one, Int.emod_emod_of_dvd _ (Int.dvd_refl _)]
    omega
  rw [← key x x0 x1, ← key y y0 y1, h]
theorem mixI_inj (x y : Int) (x0 : 0 ≤ x) (x1 : x ≤ 18446744073709551615) (y0 : 0 ≤ y) (y1 : y ≤ 18446744073709551615) (h : mixI x = mixI y) : x = y := by
  unfold mixI at h
  have bx1 := xs_bd 30 x x0 x1
  have by1 := xs_bd 30 y y0 y1
  have bx2 := wrap_bd (xs 1073741824 x * 13787848793156543929)
  have by2 := wrap_bd (xs 1073741824 y * 13787848793156543929)
  have bx3 := xs_bd 27 _ bx2.1 bx2.2
  have by3 := xs_bd 27 _ by2.1 by2.2
  have bx4 := wrap_bd (xs 134217728 (mul1 (xs 1073741824 x)) * 10723151780598845931)
  have by4 := wrap_bd (xs 134217728 (mul1 (xs 1073741824 y)) * 10723151780598845931)
  have h1 := xs_inj 31 _ _ (by decide) bx4.1 bx4.2 by4.1 by4.2 h
  have h2 := mul_inj 10723151780598845931 3573116690164977347 _ _ (by decide) bx3.1 bx3.2 by3.1 by3.2 h1
  have h3 := xs_inj 27 _ _ (by decide) bx2.1 bx2.2 by2.1 by2.2 h2
  have h4 := mul_inj 13787848793156543929 10871156337175269513 _ _ (by decide) bx1.1 bx1.2 by1.1 by1.2 h3
  exact xs_inj 30 _ _ (by decide) x0 x1 y0 y1 h4
theorem mixI_eq (x y : Int) (x0 : 0 ≤ x) (x1 : x ≤ 18446744073709551615) (y0 : 0 ≤ y) (y1 : y ≤ 18446744073709551615) : (mixI x == mixI y) = (x == y) := by
  by_cases h : x = y
  · subst h; simp
  · have : mixI x ≠ mixI y := fun e => h (mixI_inj x y x0 x1 y0 y1 e)
    rw [beq_eq_false_iff_ne.2 h, beq_eq_false_iff_ne.2 this]
theorem mixI_zero : mixI 0 = 0 := by decide
theorem mixI_one : (mixI 1 == 0) = false := by decide +kernel
/-- Word i of the table of a seed. -/
def tabI (seed : Int) (i : Nat) : Int := mixI (IntKind.u64.wrap (seed + IntKind.u64.wrap (((i + 1 : Nat) : Int) * 11400714819323198485)))
def tab (seed : Int) (n : Nat) : List Int := (List.range n).map (tabI seed)
theorem tab_len (seed : Int) (n : Nat) : (tab seed n).length = n := by simp [tab]
theorem tab_succ (seed : Int) (n : Nat) : tab seed (n + 1) = tab seed n ++ [tabI seed n] := by simp [tab, List.range_succ]
theorem tab_get (seed : Int) (n j : Nat) (h : j < n) : (tab seed n)[j]? = some (tabI seed j) := by simp [tab, h]
theorem tabI_bd (seed : Int) (i : Nat) : 0 ≤ tabI seed i ∧ tabI seed i ≤ 18446744073709551615 :=
  mixI_bd _ (wrap_bd _).1 (wrap_bd _).2
/-- The seed as it is raised round by round. -/
def up (seed : Int) (k : Nat) : Int := IntKind.u64.wrap (seed + (k : Int) * 11400714819323198485)
theorem up_zero (seed : Int) (h0 : 0 ≤ seed) (h1 : seed ≤ 18446744073709551615) : up seed 0 = seed := by
  unfold up; rw [IntKind.wrap_u64]; omega
theorem up_succ (seed : Int) (k : Nat) : IntKind.u64.wrap (up seed k + 11400714819323198485) = up seed (k + 1) := by
  unfold up; rw [IntKind.wrap_u64, IntKind.wrap_u64, IntKind.wrap_u64]; omega
theorem up_tab (seed : Int) (k : Nat) : mixI (up seed (k + 1)) = tabI seed k := by
  unfold tabI up
  congr 1
  rw [IntKind.wrap_u64, IntKind.wrap_u64, IntKind.wrap_u64]; omega
theorem up_bd (seed : Int) (k : Nat) : 0 ≤ up seed k ∧ up seed k ≤ 18446744073709551615 := wrap_bd _
end Go.Proofs.Ytlbbmnjhohfbkaa
