/- Plain numbers: the bits of a list of bytes, packed bits, and the heads between two positions. No program. -/
import Derived.WalkKit
import Derived.Test.YtdifilhfmbpalaaDoorWords
namespace Go.Proofs.YtdifilhfmbpalaaDoor
open Go.RowKit
set_option linter.unusedVariables false
set_option linter.unusedSimpArgs false
/-- Bit k of a list of bytes. -/
def bitN (L : List Int) (k : Nat) : Int := L.getD (k / 8) 0 / 2 ^ (7 - k % 8) % 2
def bitI (L : List Int) (i : Int) : Int := if 0 ≤ i ∧ i < 8 * (L.length : Int) then bitN L i.toNat else 0
theorem bitN_bd (L : List Int) (k : Nat) : 0 ≤ bitN L k ∧ bitN L k ≤ 1 := by
  unfold bitN
  generalize L.getD (k / 8) 0 / 2 ^ (7 - k % 8) = x
  omega
theorem bitI_off {L : List Int} {i : Int} (h : i < 0 ∨ 8 * (L.length : Int) ≤ i) : bitI L i = 0 := by
  unfold bitI; rw [if_neg (by omega)]
theorem bitI_on {L : List Int} {k : Nat} (h : k / 8 < L.length) : bitI L (k : Int) = bitN L k := by
  unfold bitI; rw [if_pos (by omega), Int.toNat_natCast]
/-- How many of the first k bits are 1. -/
def cnt (L : List Int) : Nat → Int
  | 0 => 0
  | k + 1 => cnt L k + bitN L k
theorem cnt_bd (L : List Int) : ∀ k : Nat, 0 ≤ cnt L k ∧ cnt L k ≤ k
  | 0 => by simp [cnt]
  | k + 1 => by
    have := cnt_bd L k
    have := bitN_bd L k
    simp only [cnt]
    omega
theorem cnt_add (L : List Int) (a : Nat) : ∀ d : Nat, 0 ≤ cnt L (a + d) - cnt L a ∧ cnt L (a + d) - cnt L a ≤ d
  | 0 => by simp
  | d + 1 => by
    have := cnt_add L a d
    have := bitN_bd L (a + d)
    rw [← Nat.add_assoc]
    simp only [cnt]
    omega
def lo0 (f : Int) : Nat := f.toNat
def hi0 (L : List Int) (t : Int) : Nat := min t.toNat (8 * L.length)
/-- The heads from one position up to another. -/
def headsI (L : List Int) (f t : Int) : Int := if lo0 f < hi0 L t then cnt L (hi0 L t) - cnt L (lo0 f) else 0
theorem heads_add (L : List Int) (x y z : Int) (h0 : 0 ≤ x) (h1 : x ≤ y) (h2 : y ≤ z) : headsI L x z = headsI L x y + headsI L y z := by
  unfold headsI lo0 hi0
  have a1 : min y.toNat (8 * L.length) ≤ min z.toNat (8 * L.length) := by omega
  by_cases c1 : y.toNat ≤ 8 * L.length
  · have e : min y.toNat (8 * L.length) = y.toNat := by omega
    rw [e]
    rcases Nat.lt_or_ge x.toNat y.toNat with g1 | g1 <;> rcases Nat.lt_or_ge y.toNat (min z.toNat (8 * L.length)) with g2 | g2
    · rw [if_pos (by omega), if_pos g1, if_pos g2]; omega
    · have e2 : min z.toNat (8 * L.length) = y.toNat := by omega
      rw [e2, if_pos g1, if_neg (by omega)]; omega
    · have e2 : x.toNat = y.toNat := by omega
      rw [e2, if_neg (by omega : ¬ y.toNat < y.toNat)]; omega
    · have e2 : x.toNat = y.toNat := by omega
      rw [if_neg (by omega), if_neg (by omega), if_neg (by omega)]; omega
  · have e : min y.toNat (8 * L.length) = min z.toNat (8 * L.length) := by omega
    rw [e, if_neg (by omega : ¬ y.toNat < min z.toNat (8 * L.length))]
    omega
theorem heads_bd (L : List Int) (f t : Int) : 0 ≤ headsI L f t ∧ headsI L f t ≤ 8 * (L.length : Int) := by
  unfold headsI
  split
  · rename_i h
    obtain ⟨d, hd⟩ : ∃ d, hi0 L t = lo0 f + d := ⟨hi0 L t - lo0 f, by omega⟩
    have := cnt_add L (lo0 f) d
    rw [hd]
    unfold hi0 at hd
    omega
  · omega
/-- The bits packed so far: the first k of the numbers Z, in N bytes. -/
def pk (Z : List Int) (N : Nat) : Nat → List Int
  | 0 => List.replicate N 0
  | k + 1 => if Z.getD k 0 = 0 then pk Z N k else (pk Z N k).set (k / 8) (bits .or .u8 ((pk Z N k).getD (k / 8) 0) (IntKind.u8.wrap (2 ^ (7 - k % 8))))
theorem pk_len (Z : List Int) (N : Nat) : ∀ k, (pk Z N k).length = N
  | 0 => by simp [pk]
  | k + 1 => by
    rw [pk]
    split
    · exact pk_len Z N k
    · rw [List.length_set]; exact pk_len Z N k
theorem or8_fin : ∀ (x : Fin 256) (p : Fin 8), 0 ≤ bits .or .u8 (x.val : Int) (IntKind.u8.wrap (2 ^ p.val)) ∧ bits .or .u8 (x.val : Int) (IntKind.u8.wrap (2 ^ p.val)) ≤ 255 ∧
    ∀ q : Fin 8, bits .or .u8 (x.val : Int) (IntKind.u8.wrap (2 ^ p.val)) / 2 ^ q.val % 2 = if q = p then 1 else (x.val : Int) / 2 ^ q.val % 2 := by decide +kernel
theorem or8 (x : Int) (p : Nat) (x0 : 0 ≤ x) (x1 : x ≤ 255) (hp : p ≤ 7) : 0 ≤ bits .or .u8 x (IntKind.u8.wrap (2 ^ p)) ∧ bits .or .u8 x (IntKind.u8.wrap (2 ^ p)) ≤ 255 ∧
    ∀ q : Nat, q ≤ 7 → bits .or .u8 x (IntKind.u8.wrap (2 ^ p)) / 2 ^ q % 2 = if q = p then 1 else x / 2 ^ q % 2 := by
  have h := or8_fin ⟨x.toNat, by omega⟩ ⟨p, by omega⟩
  simp only [Int.toNat_of_nonneg x0] at h
  obtain ⟨h1, h2, h3⟩ := h
  refine ⟨h1, h2, fun q hq => ?_⟩
  have := h3 ⟨q, by omega⟩
  simpa [Fin.ext_iff] using this
theorem pk_byt (Z : List Int) (N : Nat) : ∀ k, Byt (pk Z N k)
  | 0 => by
    intro n hn
    rw [pk] at hn
    rw [List.eq_of_mem_replicate hn]; omega
  | k + 1 => by
    rw [pk]
    split
    · exact pk_byt Z N k
    · intro n hn
      rcases List.mem_or_eq_of_mem_set hn with h | rfl
      · exact pk_byt Z N k n h
      · have hb := (pk_byt Z N k).at_ (k / 8)
        have := or8 _ (7 - k % 8) hb.1 hb.2 (by omega)
        exact ⟨this.1, this.2.1⟩
theorem getD_set' (L : List Int) (i j : Nat) (x : Int) (h : i < L.length) : (L.set i x).getD j 0 = if i = j then x else L.getD j 0 := by
  simp only [List.getD, List.getElem?_set]
  by_cases e : i = j
  · subst e; simp [h]
  · simp [e]
theorem pk_bit (Z : List Int) (N : Nat) : ∀ k, (k + 7) / 8 ≤ N → ∀ j, bitN (pk Z N k) j = if j < k ∧ Z.getD j 0 ≠ 0 then 1 else 0
  | 0, _, j => by
    unfold bitN
    rw [pk]
    have : (List.replicate N (0 : Int)).getD (j / 8) 0 = 0 := by
      simp only [List.getD, List.getElem?_replicate]
      split <;> rfl
    rw [this]
    simp
  | k + 1, h, j => by
    have ih := pk_bit Z N k (by omega) j
    have hl := pk_len Z N k
    rw [pk]
    by_cases hz : Z.getD k 0 = 0
    · rw [if_pos hz, ih]
      by_cases e : j = k
      · subst e
        rw [if_neg (fun h => by omega), if_neg (fun h => h.2 hz)]
      · have : (j < k + 1 ∧ Z.getD j 0 ≠ 0) ↔ (j < k ∧ Z.getD j 0 ≠ 0) := by omega
        simp only [this]
    · rw [if_neg hz]
      unfold bitN at ih ⊢
      rw [getD_set' _ _ _ _ (by omega)]
      have hb := (pk_byt Z N k).at_ (k / 8)
      obtain ⟨_, _, h3⟩ := or8 _ (7 - k % 8) hb.1 hb.2 (by omega)
      by_cases e1 : k / 8 = j / 8
      · rw [if_pos e1, h3 _ (by omega)]
        by_cases e : j = k
        · subst e
          rw [if_pos rfl, if_pos ⟨by omega, hz⟩]
        · rw [if_neg (by omega), e1, ih]
          have : (j < k + 1 ∧ Z.getD j 0 ≠ 0) ↔ (j < k ∧ Z.getD j 0 ≠ 0) := by omega
          simp only [this]
      · rw [if_neg e1, ih]
        have : (j < k + 1 ∧ Z.getD j 0 ≠ 0) ↔ (j < k ∧ Z.getD j 0 ≠ 0) := by
          have : j ≠ k := fun e => e1 (by rw [e])
          omega
        simp only [this]
end Go.Proofs.YtdifilhfmbpalaaDoor
