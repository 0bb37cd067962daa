/- Plain numbers and lists of bytes behind the laws of layer 3: no program. -/
import Derived.WalkKit
import Derived.Laws.BitsAllLaws
import Derived.Lib.BitFns
import Derived.Lib.ItoaNum
namespace Go.Proofs.Ytlbbmnjhohfbkaa
open Go.RowKit
set_option linter.unusedVariables false
set_option linter.unusedSimpArgs false
/-- Each is a byte. -/
def Byt (L : List Int) : Prop := ∀ n ∈ L, 0 ≤ n ∧ n ≤ 255
theorem Byt.nil : Byt [] := fun _ h => by cases h
theorem Byt.cons {c : Int} {L : List Int} (h0 : 0 ≤ c ∧ c ≤ 255) (h : Byt L) : Byt (c :: L) := fun n hn => by
  rcases List.mem_cons.1 hn with rfl | hn
  · exact h0
  · exact h n hn
theorem Byt.app {L M : List Int} (h : Byt L) (k : Byt M) : Byt (L ++ M) := fun n hn => by
  rcases List.mem_append.1 hn with hn | hn
  · exact h n hn
  · exact k n hn
theorem Byt.take {L : List Int} (h : Byt L) (k : Nat) : Byt (L.take k) := fun n hn => h n (List.mem_of_mem_take hn)
theorem Byt.drop {L : List Int} (h : Byt L) (k : Nat) : Byt (L.drop k) := fun n hn => h n (List.mem_of_mem_drop hn)
theorem Byt.at_ {L : List Int} (h : Byt L) (k : Nat) : 0 ≤ L.getD k 0 ∧ L.getD k 0 ≤ 255 := by
  by_cases hk : k < L.length
  · have : L.getD k 0 = L[k] := by simp [List.getD, hk]
    rw [this]
    exact h _ (List.getElem_mem hk)
  · have : L.getD k 0 = 0 := by simp [List.getD, List.getElem?_eq_none (show L.length ≤ k by omega)]
    rw [this]; omega
theorem snoc_ind {p : List Int → Prop} (h0 : p []) (h1 : ∀ L c, p L → p (L ++ [c])) (L : List Int) : p L := by
  have h : ∀ R : List Int, p R.reverse := by
    intro R
    induction R with
    | nil => exact h0
    | cons c R ih => rw [List.reverse_cons]; exact h1 _ c ih
  have := h L.reverse
  rwa [List.reverse_reverse] at this
/-- x as k bytes, the most significant byte first. -/
def be (x : Nat) : Nat → List Int
  | 0 => []
  | k + 1 => ((x / 256 ^ k % 256 : Nat) : Int) :: be x k
theorem be_len (x : Nat) : ∀ k, (be x k).length = k
  | 0 => rfl
  | k + 1 => by rw [be, List.length_cons, be_len x k]
theorem be_byt (x : Nat) : ∀ k, Byt (be x k)
  | 0 => Byt.nil
  | k + 1 => Byt.cons (by omega) (be_byt x k)
theorem be_snoc (x : Nat) : ∀ k, be x (k + 1) = be (x / 256) k ++ [((x % 256 : Nat) : Int)]
  | 0 => by simp [be]
  | k + 1 => by
    rw [be, be_snoc x k, be]
    have : x / 256 / 256 ^ k = x / 256 ^ (k + 1) := by rw [Nat.div_div_eq_div_mul, Nat.pow_succ, Nat.mul_comm]
    rw [this]
    rfl
/-- The number that bytes are. -/
def val (L : List Int) : Int := L.foldl (fun x c => x * 256 + c) 0
theorem val_nil : val [] = 0 := rfl
theorem val_snoc (L : List Int) (c : Int) : val (L ++ [c]) = val L * 256 + c := by simp [val]
theorem val_bd : ∀ (L : List Int), Byt L → 0 ≤ val L ∧ val L < ((256 ^ L.length : Nat) : Int) := by
  intro L
  induction L using snoc_ind with
  | h0 => intro _; simp [val]
  | h1 L c ih =>
    intro h
    obtain ⟨h0, h1⟩ := ih (fun n hn => h n (by simp [hn]))
    have hc := h c (by simp)
    rw [val_snoc, List.length_append, List.length_singleton, Nat.pow_succ]
    generalize 256 ^ L.length = p at *
    omega
theorem be_val : ∀ (L : List Int), Byt L → be (val L).toNat L.length = L := by
  intro L
  induction L using snoc_ind with
  | h0 => intro _; rfl
  | h1 L c ih =>
    intro h
    have hL : Byt L := fun n hn => h n (by simp [hn])
    have hc := h c (by simp)
    have h0 := (val_bd L hL).1
    rw [val_snoc, List.length_append, List.length_singleton, be_snoc]
    have e1 : (val L * 256 + c).toNat / 256 = (val L).toNat := by omega
    have e2 : (((val L * 256 + c).toNat % 256 : Nat) : Int) = c := by omega
    rw [e1, e2, ih hL]
theorem val_be (x : Nat) : ∀ k, x < 256 ^ k → val (be x k) = (x : Int) := by
  intro k
  induction k generalizing x with
  | zero => intro h; have : x = 0 := by simpa using h
            subst this; rfl
  | succ k ih =>
    intro h
    rw [be_snoc, val_snoc, ih (x / 256) (by rw [Nat.pow_succ] at h; omega)]
    omega
/-- The number of bytes of a number. -/
def nb (x : Nat) : Nat := (Lib.bitLen x + 7) / 8
theorem nb_bd (x : Nat) (h0 : 0 < x) (h : x < 18446744073709551616) : 1 ≤ nb x ∧ nb x ≤ 8 ∧ 256 ^ (nb x - 1) ≤ x ∧ x < 256 ^ nb x := by
  obtain ⟨h1, h2, h3⟩ := Lib.bitLenAux_bounds 64 x h (by omega)
  have h4 : Lib.bitLenAux 64 x ≤ 64 := Lib.bitLenAux_le 64 x 64 h
  have e : Lib.bitLen x = Lib.bitLenAux 64 x := rfl
  unfold nb
  rw [e]
  generalize Lib.bitLenAux 64 x = b at *
  refine ⟨by omega, by omega, ?_, ?_⟩
  · have : (256 : Nat) = 2 ^ 8 := rfl
    rw [this, ← Nat.pow_mul]
    exact Nat.le_trans (Nat.pow_le_pow_right (by decide) (by omega)) h2
  · have : (256 : Nat) = 2 ^ 8 := rfl
    rw [this, ← Nat.pow_mul]
    exact Nat.lt_of_lt_of_le h3 (Nat.pow_le_pow_right (by decide) (by omega))
theorem nb_of {x k : Nat} (h0 : 0 < x) (h : x < 18446744073709551616) (hk : 1 ≤ k) (hl : 256 ^ (k - 1) ≤ x) (hu : x < 256 ^ k) : nb x = k := by
  obtain ⟨h1, h2, h3, h4⟩ := nb_bd x h0 h
  rcases Nat.lt_trichotomy (nb x) k with hlt | he | hgt
  · exfalso
    have : 256 ^ nb x ≤ 256 ^ (k - 1) := Nat.pow_le_pow_right (by decide) (by omega)
    omega
  · exact he
  · exfalso
    have : 256 ^ k ≤ 256 ^ (nb x - 1) := Nat.pow_le_pow_right (by decide) (by omega)
    omega
/-- The encoding of a number. -/
def uintB (x : Nat) : List Int := if x < 248 then [(x : Int)] else ((247 + nb x : Nat) : Int) :: be x (nb x)
/-- What is read as a number: the number, the bytes that it takes, the error. -/
def decU (L : List Int) : Int × Int × Int :=
  if L.length = 0 then (0, 0, 3)
  else if L.getD 0 0 < 248 then (L.getD 0 0, 1, 0)
  else if (L.length : Int) < L.getD 0 0 - 246 then (0, 0, 3)
  else if L.getD 1 0 = 0 ∨ val ((L.take (L.getD 0 0 - 246).toNat).drop 1) < 248 ∨ 4611686018427387904 < val ((L.take (L.getD 0 0 - 246).toNat).drop 1) then (0, 0, 2)
  else (val ((L.take (L.getD 0 0 - 246).toNat).drop 1), L.getD 0 0 - 246, 0)
/-- The two sums of a checksum. -/
def sumU (L : List Int) : Int := L.foldl (fun u c => (u + c) % 65521) 1
def sumsUV (L : List Int) : Int × Int := L.foldl (fun p c => ((p.1 + c) % 65521, (p.2 + (p.1 + c) % 65521) % 65521)) (1, 0)
def adler (L : List Int) : Int := (sumsUV L).2 * 65536 + (sumsUV L).1
theorem sums_snoc (L : List Int) (c : Int) : sumsUV (L ++ [c]) = (((sumsUV L).1 + c) % 65521, ((sumsUV L).2 + ((sumsUV L).1 + c) % 65521) % 65521) := by simp [sumsUV]
theorem sums_bd (L : List Int) : 0 ≤ (sumsUV L).1 ∧ (sumsUV L).1 < 65521 ∧ 0 ≤ (sumsUV L).2 ∧ (sumsUV L).2 < 65521 := by
  induction L using snoc_ind with
  | h0 => decide
  | h1 L c ih => rw [sums_snoc]; dsimp only; omega
theorem take_snoc (L : List Int) (k : Nat) (h : k < L.length) : L.take (k + 1) = L.take k ++ [L.getD k 0] := by
  rw [List.take_succ_eq_append_getElem h]
  simp [List.getD, h]
end Go.Proofs.Ytlbbmnjhohfbkaa
