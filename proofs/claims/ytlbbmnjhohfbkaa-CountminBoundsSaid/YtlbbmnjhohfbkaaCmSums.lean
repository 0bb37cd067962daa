/- The weight of a key and of all items against the cells. -/
import Derived.Test.YtlbbmnjhohfbkaaCmPure
import Derived.Test.YtlbbmnjhohfbkaaCmEst
namespace Go.Proofs.Ytlbbmnjhohfbkaa
open Go.RowKit
set_option linter.unusedVariables false
set_option linter.unusedSimpArgs false
/-- The weight of the first k items; of those with the key K. -/
def allW (L : List Int) : Nat → Int
  | 0 => 0
  | k + 1 => allW L k + wtS (L.getD k 0 % 65536)
def ownW (K : ByteArray) (L : List Int) : Nat → Int
  | 0 => 0
  | k + 1 => if keyS (L.getD k 0 % 65536) = K then ownW K L k + wtS (L.getD k 0 % 65536) else ownW K L k
theorem allW_bd (L : List Int) : ∀ k, 0 ≤ allW L k ∧ allW L k ≤ (k : Int) * 4294967295
  | 0 => by simp [allW]
  | k + 1 => by
    have := allW_bd L k
    have := wtS_bd (L.getD k 0 % 65536)
    unfold allW
    omega
theorem ownW_bd (K : ByteArray) (L : List Int) : ∀ k, 0 ≤ ownW K L k ∧ ownW K L k ≤ (k : Int) * 4294967295
  | 0 => by simp [ownW]
  | k + 1 => by
    have := ownW_bd K L k
    have := wtS_bd (L.getD k 0 % 65536)
    unfold ownW
    split <;> omega
theorem sums7_succ (D S x : Int) (T : Nat → Int) {l : List Int} {k : Nat} (h : k < l.length) : sums7 D S x T (l.take (k + 1)) = upT x S (keyS (l.getD k 0 % 65536)) (wtS (l.getD k 0 % 65536)) (sums7 D S x T (l.take k)) D.toNat := by
  unfold sums7
  rw [take_snoc l k h, List.foldl_append]
  rfl
theorem upT_ge (x S : Int) (k : ByteArray) {n : Int} (hn : 0 ≤ n) (T : Nat → Int) (i : Nat) : ∀ r, T i ≤ upT x S k n T r i
  | 0 => Int.le_refl _
  | r + 1 => by
    have := upT_ge x S k hn T i r
    unfold upT bump
    split <;> omega
theorem upT_hit (x S : Int) (k : ByteArray) {n : Int} (hn : 0 ≤ n) (T : Nat → Int) (j : Nat) : ∀ r, j < r → T (celI x S k j) + n ≤ upT x S k n T r (celI x S k j)
  | 0, h => by omega
  | r + 1, h => by
    unfold upT bump
    by_cases hj : j = r
    · subst hj
      rw [if_pos rfl]
      have := upT_ge x S k hn T (celI x S k j) j
      omega
    · have := upT_hit x S k hn T j r (by omega)
      split <;> omega
theorem upT_low (x S : Int) (k : ByteArray) {n : Int} (hn : 0 ≤ n) (hS : 1 ≤ S) (T : Nat → Int) (i : Nat) (hi : (i : Int) < S) : ∀ r, upT x S k n T r i ≤ T i + n
  | 0 => by show T i ≤ T i + n; omega
  | 1 => by
    show bump T (celI x S k 0) n i ≤ T i + n
    unfold bump
    split <;> omega
  | r + 2 => by
    have ih := upT_low x S k hn hS T i hi (r + 1)
    show bump (upT x S k n T (r + 1)) (celI x S k (r + 1)) n i ≤ T i + n
    unfold bump
    rw [if_neg ?_]
    · exact ih
    · have h1 := celI_eq x S k (r + 1) hS
      have h2 := colI_bd x ((r + 1 : Nat) : Int) S k hS
      have h3 : 1 * S ≤ ((r + 1 : Nat) : Int) * S := Int.mul_le_mul_of_nonneg_right (by omega) (by omega)
      intro he
      rw [← he] at h1
      omega
theorem own_le (D S x : Int) (K : ByteArray) (L : List Int) (j : Nat) (hj : j < D.toNat) : ∀ k, k ≤ L.length → ownW K L k ≤ sums7 D S x (fun _ => 0) (L.take k) (celI x S K j)
  | 0, _ => by show (0 : Int) ≤ 0; omega
  | k + 1, h => by
    have ih := own_le D S x K L j hj k (by omega)
    have hw := wtS_bd (L.getD k 0 % 65536)
    rw [sums7_succ D S x _ h]
    unfold ownW
    split
    · rename_i hk
      rw [hk]
      have := upT_hit x S K (n := wtS (L.getD k 0 % 65536)) (by omega) (sums7 D S x (fun _ => 0) (L.take k)) j _ hj
      omega
    · have := upT_ge x S (keyS (L.getD k 0 % 65536)) (n := wtS (L.getD k 0 % 65536)) (by omega) (sums7 D S x (fun _ => 0) (L.take k)) (celI x S K j) D.toNat
      omega
theorem le_all (D S x : Int) (hS : 1 ≤ S) (L : List Int) (i : Nat) (hi : (i : Int) < S) : ∀ k, k ≤ L.length → sums7 D S x (fun _ => 0) (L.take k) i ≤ allW L k
  | 0, _ => by show (0 : Int) ≤ 0; omega
  | k + 1, h => by
    have ih := le_all D S x hS L i hi k (by omega)
    have hw := wtS_bd (L.getD k 0 % 65536)
    rw [sums7_succ D S x _ h]
    unfold allW
    have := upT_low x S (keyS (L.getD k 0 % 65536)) (n := wtS (L.getD k 0 % 65536)) (by omega) hS (sums7 D S x (fun _ => 0) (L.take k)) i hi D.toNat
    omega
theorem estUp_ge {x S : Int} {k : ByteArray} {L : List Int} {n : Int} (h0 : n ≤ 4294967295) : ∀ r, (∀ j, j < r → n ≤ L.getD (celI x S k j) 0) → n ≤ estUp x S k L r
  | 0, _ => h0
  | r + 1, h => by
    have ih := estUp_ge h0 r (fun j hj => h j (by omega))
    have := h r (by omega)
    unfold estUp
    omega
theorem estUp_le {x S : Int} {k : ByteArray} {L : List Int} : ∀ r, 1 ≤ r → estUp x S k L r ≤ L.getD (celI x S k 0) 0
  | 0, h => by omega
  | 1, _ => Int.min_le_right _ _
  | r + 2, _ => Int.le_trans (Int.min_le_left _ _) (estUp_le (x := x) (S := S) (k := k) (L := L) (r + 1) (by omega))
/-- An estimate lies between the weight of the key and the weight of all. -/
theorem est_between {D S x : Int} (h : 1 ≤ D ∧ D ≤ 8 ∧ 1 ≤ S ∧ S ≤ 64) (L : List Int) (k : Nat) (hk : k ≤ L.length) (K : ByteArray) (hK : keyB (byt K) = true) :
    cmEstE (mdUp (newC D S x) (L.take k)) K = 0 ∧ ((mdUp (newC D S x) (L.take k)).s = false → ownW K L k ≤ cmEst (mdUp (newC D S x) (L.take k)) K ∧ cmEst (mdUp (newC D S x) (L.take k)) K ≤ allW L k) := by
  have ha := (newC_ok h x).up (L.take k)
  have ht := Tr.up (newC_ok h x) (Tr.new h x) (L.take k)
  obtain ⟨a1, a2, a3, a4⟩ := ha
  rw [newC_eq h] at *
  dsimp only at a1 a2 a3 a4 ht
  generalize mdUp ⟨D, S, x, List.replicate (D * S).toNat 0, false⟩ (L.take k) = c at *
  obtain ⟨_, hl, hb⟩ := cmE_ok a4
  have e0 : cmEstE c K = 0 := by
    unfold cmEstE
    rw [a1, a2, if_neg (by simp [a4]), if_neg (by simp [hK])]
  refine ⟨e0, fun hs => ?_⟩
  have hcell : ∀ j, j < D.toNat → celI x S K j < c.L.length := fun j hj => celI_lt (by omega) (by omega) hl
  have hT : ∀ i, i < c.L.length → c.L.getD i 0 = sums7 D S x (fun _ => 0) (L.take k) i := by
    intro i hi
    have e1 := ht.2.1 i hi
    by_cases h5 : 4294967295 < sums7 D S x (fun _ => 0) (L.take k) i
    · have := ht.2.2.2 ⟨i, hi, h5⟩
      rw [hs] at this
      exact absurd this (by decide)
    · omega
  unfold cmEst
  rw [e0, if_neg (by simp), a1, a2, a3]
  constructor
  · have hge : ∀ j, j < D.toNat → ownW K L k ≤ c.L.getD (celI x S K j) 0 := fun j hj => by
      rw [hT _ (hcell j hj)]
      exact own_le D S x K L j hj k hk
    refine estUp_ge ?_ _ hge
    have h0 := hge 0 (by omega)
    have := getD_bd hb (celI x S K 0)
    omega
  · refine Int.le_trans (estUp_le _ (by omega)) ?_
    rw [hT _ (hcell 0 (by omega))]
    refine le_all D S x (by omega) L _ ?_ k hk
    have h1 := celI_eq x S K 0 (by omega)
    have h2 := colI_bd x ((0 : Nat) : Int) S K (by omega)
    omega
end Go.Proofs.Ytlbbmnjhohfbkaa
