/- Plain facts on encodings: what was encoded is read back; a number has one encoding; cut encodings; a changed byte. -/
import Derived.Test.YtmmdnomfpfcjiaaWires
namespace Go.Proofs.Ytmmdnomfpfcjiaa
open Go.RowKit
set_option linter.unusedVariables false
set_option linter.unusedSimpArgs false
theorem val_cons (c : Int) : ∀ L, val (c :: L) = c * ((256 ^ L.length : Nat) : Int) + val L := by
  intro L
  induction L using snoc_ind with
  | h0 => simp [val]
  | h1 L d ih =>
    have e : c :: (L ++ [d]) = (c :: L) ++ [d] := rfl
    rw [e, val_snoc, val_snoc, ih, List.length_append, List.length_singleton, Nat.pow_succ]
    generalize 256 ^ L.length = p
    have e2 : ((p * 256 : Nat) : Int) = (p : Int) * 256 := by omega
    rw [e2, Int.add_mul, Int.mul_assoc, Int.add_assoc]
theorem take_one_drop {L : List Int} (h : 1 < L.length) : ∃ R, L.drop 1 = L.getD 1 0 :: R := by
  refine ⟨L.drop 2, ?_⟩
  rw [List.drop_eq_getElem_cons h]
  simp [List.getD, h]
/-- What is read as a number is its encoding. -/
theorem decU_once {L : List Int} (hy : Byt L) (h : (decU L).2.2 = 0) : uintB (decU L).1.toNat = L.take (decU L).2.1.toNat := by
  have hc := hy.at_ 0
  unfold decU at h ⊢
  by_cases h0 : L.length = 0
  · rw [if_pos h0] at h; simp at h
  · rw [if_neg h0] at h ⊢
    have hl : L.take 1 = [L.getD 0 0] := by
      have := take_snoc L 0 (by omega)
      simpa using this
    by_cases h1 : L.getD 0 0 < 248
    · rw [if_pos h1]
      show uintB (L.getD 0 0).toNat = L.take 1
      rw [hl]
      unfold uintB
      rw [if_pos (by omega)]
      congr 1
      omega
    · rw [if_neg h1] at h ⊢
      by_cases h2 : (L.length : Int) < L.getD 0 0 - 246
      · rw [if_pos h2] at h; simp at h
      · rw [if_neg h2] at h ⊢
        obtain ⟨k, hk⟩ : ∃ k : Nat, L.getD 0 0 - 246 = ((k + 2 : Nat) : Int) := ⟨(L.getD 0 0 - 248).toNat, by omega⟩
        rw [hk] at h ⊢
        rw [Int.toNat_natCast] at h ⊢
        obtain ⟨R, hR⟩ := take_one_drop (L := L.take (k + 2)) (by simp; omega)
        have ht : (L.take (k + 2)).getD 1 0 = L.getD 1 0 := by simp [List.getD, List.getElem?_take]
        have hRl : R.length = k := by
          have := congrArg List.length hR
          simp at this
          omega
        rw [ht] at hR
        have hyD : Byt ((L.take (k + 2)).drop 1) := (hy.take _).drop 1
        split at h
        · simp at h
        · rename_i h3
          rw [if_neg h3]
          have hb := val_bd _ hyD
          have hlen : ((L.take (k + 2)).drop 1).length = k + 1 := by simp; omega
          rw [hlen] at hb
          have hv := val_cons (L.getD 1 0) R
          have hyR : Byt R := fun n hn => hyD n (by rw [hR]; exact List.mem_cons_of_mem _ hn)
          have hRb := val_bd R hyR
          have hc1 := hy.at_ 1
          rw [← hR, hRl] at hv
          have hbv := be_val _ hyD
          rw [hlen] at hbv
          have hlow : ((256 ^ k : Nat) : Int) ≤ val ((L.take (k + 2)).drop 1) := by
            have hp : (0 : Int) ≤ ((256 ^ k : Nat) : Int) := by omega
            have : 1 * ((256 ^ k : Nat) : Int) ≤ L.getD 1 0 * ((256 ^ k : Nat) : Int) := Int.mul_le_mul_of_nonneg_right (by omega) hp
            omega
          show uintB (val ((L.take (k + 2)).drop 1)).toNat = L.take (k + 2)
          have e1 : L.take (k + 2) = L.getD 0 0 :: (L.take (k + 2)).drop 1 := by
            have : L.take (k + 2) = (L.take (k + 2)).take 1 ++ (L.take (k + 2)).drop 1 := (List.take_append_drop 1 _).symm
            rw [List.take_take, Nat.min_eq_left (by omega), hl] at this
            exact this
          generalize hx : val ((L.take (k + 2)).drop 1) = x at *
          have hnb : nb x.toNat = k + 1 := nb_of (by omega) (by omega) (by omega) (by show 256 ^ k ≤ x.toNat; omega) (by omega)
          rw [e1]
          unfold uintB
          rw [if_neg (by omega), hnb, hbv]
          congr 1
          omega
theorem getD_app_lt {L M : List Int} {k : Nat} (h : k < L.length) : (L ++ M).getD k 0 = L.getD k 0 := by simp [List.getD, List.getElem?_append_left h]
theorem uintB_small {n : Nat} (h : n < 248) : uintB n = [(n : Int)] := by unfold uintB; rw [if_pos h]
theorem uintB_large {n : Nat} (h : ¬ n < 248) : uintB n = ((247 + nb n : Nat) : Int) :: be n (nb n) := by unfold uintB; rw [if_neg h]
theorem be_first {x k : Nat} (hk : 1 ≤ k) (h1 : 256 ^ (k - 1) ≤ x) (h2 : x < 256 ^ k) : (be x k).getD 0 0 ≠ 0 := by
  obtain ⟨j, rfl⟩ : ∃ j, k = j + 1 := ⟨k - 1, by omega⟩
  have h1 : 256 ^ j ≤ x := h1
  have e : (be x (j + 1)).getD 0 0 = ((x / 256 ^ j % 256 : Nat) : Int) := rfl
  rw [e]
  have hp : 0 < 256 ^ j := Nat.pow_pos (by decide)
  have hd : 1 ≤ x / 256 ^ j := (Nat.le_div_iff_mul_le hp).2 (by omega)
  have hu : x / 256 ^ j < 256 := (Nat.div_lt_iff_lt_mul hp).2 (by rw [Nat.mul_comm, ← Nat.pow_succ]; exact h2)
  rw [Nat.mod_eq_of_lt hu]
  omega
/-- What was encoded is read back, whatever follows. -/
theorem decU_back {n : Nat} (hn : n ≤ 4611686018427387904) (R : List Int) : decU (uintB n ++ R) = ((n : Int), ((uintB n).length : Int), 0) := by
  by_cases hs : n < 248
  · rw [uintB_small hs]
    unfold decU
    rw [if_neg (by simp), if_pos (by show (n : Int) < 248; omega)]
    rfl
  · obtain ⟨n1, n2, n3, n4⟩ := nb_bd n (by omega) (by omega)
    rw [uintB_large hs]
    have hf := be_first n1 n3 n4
    have hbl := be_len n (nb n)
    have hvb := val_be n (nb n) n4
    generalize nb n = k at *
    unfold decU
    have e0 : (((247 + k : Nat) : Int) :: be n k ++ R).getD 0 0 = ((247 + k : Nat) : Int) := rfl
    have e1 : (((247 + k : Nat) : Int) :: be n k ++ R).getD 1 0 = (be n k).getD 0 0 := by
      have : (((247 + k : Nat) : Int) :: be n k ++ R).getD 1 0 = (be n k ++ R).getD 0 0 := rfl
      rw [this, getD_app_lt (by omega)]
    have e2 : ((((247 + k : Nat) : Int) :: be n k ++ R).take (((247 + k : Nat) : Int) - 246).toNat).drop 1 = be n k := by
      have : (((247 + k : Nat) : Int) - 246).toNat = k + 1 := by omega
      rw [this]
      show ((((247 + k : Nat) : Int) :: (be n k ++ R)).take (k + 1)).drop 1 = be n k
      rw [List.take_succ_cons, List.drop_succ_cons, List.drop_zero]
      have := List.take_left' (l₂ := R) hbl
      exact this
    rw [e0, e1, e2, hvb]
    have hl : (((247 + k : Nat) : Int) :: be n k ++ R).length = k + 1 + R.length := by simp [hbl]; omega
    rw [hl, if_neg (by omega), if_neg (by omega), if_neg (by omega), if_neg (by intro h; rcases h with h | h | h; exact hf h; omega; omega)]
    have : ((((247 + k : Nat) : Int) :: be n k).length : Int) = ((247 + k : Nat) : Int) - 246 := by simp [hbl]; omega
    rw [this]
/-- A cut number. -/
theorem decU_cut {n k : Nat} (hn : n ≤ 4611686018427387904) (hk : k < (uintB n).length) : decU ((uintB n).take k) = (0, 0, 3) := by
  by_cases hk0 : k = 0
  · subst hk0; rfl
  · by_cases hs : n < 248
    · rw [uintB_small hs] at hk
      simp at hk; omega
    · obtain ⟨n1, n2, _, _⟩ := nb_bd n (by omega) (by omega)
      rw [uintB_large hs] at hk ⊢
      have hbl := be_len n (nb n)
      generalize nb n = m at *
      have hkm : k < m + 1 := by simpa [hbl] using hk
      have hl : ((((247 + m : Nat) : Int) :: be n m).take k).length = k := by simp [hbl]; omega
      have e0 : ((((247 + m : Nat) : Int) :: be n m).take k).getD 0 0 = ((247 + m : Nat) : Int) := by
        obtain ⟨j, rfl⟩ : ∃ j, k = j + 1 := ⟨k - 1, by omega⟩
        rfl
      unfold decU
      rw [hl, e0, if_neg hk0, if_neg (by omega), if_pos (by omega)]
theorem uintB_byt {n : Nat} (hn : n ≤ 4611686018427387904) : Byt (uintB n) := by
  by_cases hs : n < 248
  · rw [uintB_small hs]; exact Byt.cons (by omega) Byt.nil
  · obtain ⟨n1, n2, _, _⟩ := nb_bd n (by omega) (by omega)
    rw [uintB_large hs]
    exact Byt.cons (by omega) (be_byt _ _)
/-- A string, read back. -/
theorem decT_back {B : List Int} (hB : B.length ≤ 65536) (R : List Int) : decT (textB B ++ R) = (B, ((textB B).length : Int), 0) := by
  have e : textB B = uintB B.length ++ B := by unfold textB; rw [if_pos hB]
  have hd := decU_back (n := B.length) (by omega) (B ++ R)
  rw [e]
  unfold decT
  rw [List.append_assoc, hd]
  dsimp only
  rw [if_neg (by decide), if_neg (by omega), if_neg (by simp; omega)]
  have e1 : (((uintB B.length).length : Int) + (B.length : Int)).toNat = (uintB B.length).length + B.length := by omega
  rw [e1, Int.toNat_natCast, List.length_append]
  have : ((uintB B.length ++ (B ++ R)).take ((uintB B.length).length + B.length)).drop (uintB B.length).length = B := by
    rw [List.take_append, List.take_of_length_le (by omega), Nat.add_sub_cancel_left, List.take_left' rfl, List.drop_left' rfl]
  rw [this]
  rfl
theorem take_app {L M : List Int} (k : Nat) : (L ++ M).take k = if k < L.length then L.take k else L ++ M.take (k - L.length) := by
  rw [List.take_append]
  split
  · have : k - L.length = 0 := by omega
    rw [this, List.take_zero, List.append_nil]
  · rw [List.take_of_length_le (by omega)]
/-- A cut string. -/
theorem decT_cut {B : List Int} (hB : B.length ≤ 65536) {k : Nat} (hk : k < (textB B).length) : decT ((textB B).take k) = ([], 0, 3) := by
  have e : textB B = uintB B.length ++ B := by unfold textB; rw [if_pos hB]
  rw [e] at hk ⊢
  rw [take_app]
  split
  · rename_i h
    unfold decT
    rw [decU_cut (by omega) h]
    rfl
  · rename_i h
    have hd := decU_back (n := B.length) (by omega) (B.take (k - (uintB B.length).length))
    unfold decT
    rw [hd]
    dsimp only
    have hl : ((B.take (k - (uintB B.length).length)).length) < B.length := by simp at hk ⊢; omega
    rw [if_neg (by decide), if_neg (by omega), if_pos (by rw [List.length_append]; omega)]
end Go.Proofs.Ytmmdnomfpfcjiaa
