/- Decimal numbers over lists of bytes: no function of the program. -/
import Derived.Test.YtedcleobhdjhaaaDoorKeys
import Derived.Lib.ItoaMem
import Derived.Lib.AppendIntMem
namespace Go.Proofs.YtedcleobhdjhaaaDoor
open Go.RowKit
set_option linter.unusedVariables false
set_option linter.unusedSimpArgs false
def digV (L : List Int) : Int := L.foldl (fun n c => 10 * n + (c - 48)) 0
theorem digV_snoc (L : List Int) (c : Int) : digV (L ++ [c]) = 10 * digV L + (c - 48) := by simp [digV]
theorem digB_bd {c : Int} (h : digB c = true) : 48 ≤ c ∧ c ≤ 57 := by simpa [digB, inB] using h
theorem digV_bd : ∀ L : List Int, L.all digB = true → 0 ≤ digV L ∧ digV L < ((10 ^ L.length : Nat) : Int) := by
  intro L
  induction L using snoc_ind with
  | h0 => intro _; simp [digV]
  | h1 L c ih =>
    intro h
    rw [List.all_append, Bool.and_eq_true] at h
    have h1 := ih h.1
    have h2 := digB_bd (c := c) (by simpa using h.2)
    rw [digV_snoc, List.length_append, List.length_singleton, Nat.pow_succ]
    generalize 10 ^ L.length = p at *
    omega
def okD (L : List Int) : Bool := decide (1 ≤ L.length) && decide (L.length ≤ 12) && !(L.getD 0 0 == 48 && decide (1 < L.length)) && L.all digB
def pdV (L : List Int) : Int × Bool := if okD L = true then (digV L, true) else (0, false)
def parI (L : List Int) : Int × Int :=
  match L with
  | 45 :: D => if okD D = true ∧ digV D ≠ 0 then (-digV D, 0) else (0, 1)
  | _ => if okD L = true then (digV L, 0) else (0, 1)
theorem parI_neg (D : List Int) : parI (45 :: D) = if okD D = true ∧ digV D ≠ 0 then (-digV D, 0) else (0, 1) := rfl
theorem parI_pos {L : List Int} (h : ∀ D, L ≠ 45 :: D) : parI L = if okD L = true then (digV L, 0) else (0, 1) := by
  unfold parI
  split
  · exact absurd rfl (h _)
  · rfl
theorem digV_mono : ∀ (A B : List Int), B.all digB = true → ((10 ^ B.length : Nat) : Int) * digV A ≤ digV (A ++ B) := by
  intro A B
  induction B using snoc_ind with
  | h0 => intro _; simp
  | h1 L c ih =>
    intro h
    rw [List.all_append, Bool.and_eq_true] at h
    have h1 := ih h.1
    have h2 := digB_bd (c := c) (by simpa using h.2)
    rw [← List.append_assoc, digV_snoc, List.length_append, List.length_singleton, Nat.pow_succ]
    have e : ((10 ^ L.length * 10 : Nat) : Int) * digV A = 10 * (((10 ^ L.length : Nat) : Int) * digV A) := by
      rw [Int.natCast_mul]
      rw [Int.mul_comm ((10 ^ L.length : Nat) : Int) ((10 : Nat) : Int), Int.mul_assoc]
      rfl
    rw [e]
    omega
/-- Digits that do not open with 0 are not the number 0. -/
theorem digV_pos {L : List Int} (ha : L.all digB = true) (hl : 1 ≤ L.length) (h0 : L.getD 0 0 ≠ 48) : 1 ≤ digV L := by
  cases L with
  | nil => simp at hl
  | cons c L =>
    simp only [List.getD_cons_zero] at h0
    simp only [List.all_cons, Bool.and_eq_true] at ha
    have hc := digB_bd ha.1
    have hm := digV_mono [c] L ha.2
    have e : digV [c] = c - 48 := by simp [digV]
    rw [e] at hm
    have hp : 1 ≤ 10 ^ L.length := Nat.one_le_pow _ _ (by decide)
    have : (1 : Int) ≤ ((10 ^ L.length : Nat) : Int) * (c - 48) := by
      have h1 : (1 : Int) ≤ ((10 ^ L.length : Nat) : Int) := by omega
      have h2 : (1 : Int) ≤ c - 48 := by omega
      have := Int.mul_le_mul h1 h2 (by omega) (by omega)
      simpa using this
    simpa using Int.le_trans this hm
theorem digV_zero {L : List Int} (ha : L.all digB = true) (hl : L.length = 1) (h0 : L.getD 0 0 = 48) : digV L = 0 := by
  match L, hl with
  | [c], _ =>
    simp only [List.getD_cons_zero] at h0
    simp [digV, h0]
def decI (u : Nat) : List Int := (Lib.decDigits u).map fun b => (b.toNat : Int)
theorem decI_len (u : Nat) : (decI u).length = Lib.nDigits u := by rw [decI, List.length_map, Lib.decDigits_length]
theorem dig_nat (k : Nat) (h : k < 10) : ((UInt8.ofNat (48 + k)).toNat : Int) = 48 + (k : Int) := by
  rw [UInt8.toNat_ofNat']; omega
theorem decI_small {u : Nat} (h : u < 10) : decI u = [48 + (u : Int)] := by
  rw [decI, Lib.decDigits, dif_pos h, List.map_singleton, dig_nat u h]
theorem decI_big {u : Nat} (h : ¬ u < 10) : decI u = decI (u / 10) ++ [48 + ((u % 10 : Nat) : Int)] := by
  rw [decI, Lib.decDigits, dif_neg h, List.map_append, List.map_singleton, dig_nat (u % 10) (by omega)]
  rfl
theorem decI_val (u : Nat) : digV (decI u) = u := by
  induction u using Nat.strongRecOn with
  | _ u ih =>
    by_cases h : u < 10
    · rw [decI_small h]; simp [digV]; omega
    · rw [decI_big h, digV_snoc, ih (u / 10) (by omega)]; omega
theorem decI_dig (u : Nat) : (decI u).all digB = true := by
  induction u using Nat.strongRecOn with
  | _ u ih =>
    by_cases h : u < 10
    · rw [decI_small h]; simp [digB, inB]; omega
    · rw [decI_big h, List.all_append, ih (u / 10) (by omega)]; simp [digB, inB]; omega
theorem nd_le : ∀ (k u : Nat), 1 ≤ k → u < 10 ^ k → Lib.nDigits u ≤ k
  | 0, u, h, _ => by omega
  | k + 1, u, _, h2 => by
    by_cases h : u < 10
    · rw [Lib.nDigits_small h]; omega
    · rw [Nat.pow_succ] at h2
      by_cases hk : k = 0
      · subst hk; simp at h2; omega
      · rw [Lib.nDigits_big h]
        have := nd_le k (u / 10) (by omega) (by omega)
        omega
theorem decI_head (u : Nat) (h : 1 ≤ u) : (decI u).getD 0 0 ≠ 48 := by
  induction u using Nat.strongRecOn with
  | _ u ih =>
    by_cases h1 : u < 10
    · rw [decI_small h1]; simp; omega
    · rw [decI_big h1]
      have h2 := ih (u / 10) (by omega) (by omega)
      have h3 := decI_len (u / 10)
      have h4 := Lib.nDigits_pos (u / 10)
      cases hd : decI (u / 10) with
      | nil => rw [hd] at h3; simp at h3; omega
      | cons a l => rw [hd] at h2; exact h2
theorem okD_dec (u : Nat) : okD (decI u) = decide (u ≤ 999999999999) := by
  unfold okD
  rw [decI_dig, decI_len]
  have hp := Lib.nDigits_pos u
  have h1 : decide (1 ≤ Lib.nDigits u) = true := by simp; omega
  have h3 : ((decI u).getD 0 0 == 48 && decide (1 < Lib.nDigits u)) = false := by
    by_cases hu : 1 ≤ u
    · have := beq_eq_false_iff_ne.2 (decI_head u hu)
      rw [this]; rfl
    · have : Lib.nDigits u = 1 := Lib.nDigits_small (by omega)
      simp [this]
  rw [h1, h3]
  by_cases h : u ≤ 999999999999
  · have := nd_le 12 u (by decide) (by simp; omega)
    simp [h, this]
  · have h12 : ¬ Lib.nDigits u ≤ 12 := fun hc => by
      have h5 := Lib.lt_pow_nDigits u
      have h6 : 10 ^ Lib.nDigits u ≤ 10 ^ 12 := Nat.pow_le_pow_right (by decide) hc
      have h7 : (10 : Nat) ^ 12 = 1000000000000 := by decide
      omega
    simp [h, h12]
def itoI (n : Int) : List Int := (Lib.itoa n).map fun b => (b.toNat : Int)
theorem dec_ne (u : Nat) (D : List Int) : decI u ≠ 45 :: D := by
  intro h
  have := decI_dig u
  rw [h] at this
  simp [digB, inB] at this
theorem parI_itoa (n : Int) : parI (itoI n) = if n < -999999999999 ∨ 999999999999 < n then (0, 1) else (n, 0) := by
  by_cases h : n < 0
  · obtain ⟨u, rfl⟩ : ∃ u : Nat, n = -(u : Int) := ⟨n.natAbs, by omega⟩
    have e : itoI (-(u : Int)) = 45 :: decI u := by rw [itoI, Lib.itoa_neg u (by omega)]; rfl
    rw [e, parI_neg, okD_dec, decI_val]
    by_cases hu : u ≤ 999999999999
    · rw [if_pos ⟨by simpa using hu, by omega⟩, if_neg (by omega)]
    · rw [if_neg (fun hc => hu (by simpa using hc.1)), if_pos (by omega)]
  · obtain ⟨u, rfl⟩ : ∃ u : Nat, n = (u : Int) := ⟨n.toNat, by omega⟩
    have e : itoI (u : Int) = decI u := by rw [itoI, Lib.itoa_nonneg]; rfl
    rw [e, parI_pos (dec_ne u), okD_dec, decI_val]
    by_cases hu : u ≤ 999999999999
    · rw [if_pos (by simpa using hu), if_neg (by omega)]
    · rw [if_neg (by simpa using hu), if_pos (by omega)]
end Go.Proofs.YtedcleobhdjhaaaDoor
