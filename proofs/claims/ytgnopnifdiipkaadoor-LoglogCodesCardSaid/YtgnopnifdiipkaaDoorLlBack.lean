/- What is encoded as a LogLog sketch is read back. -/
import Derived.Test.YtgnopnifdiipkaaDoorRLDecN
import Derived.Test.YtgnopnifdiipkaaDoorRLEnc
namespace Go.Proofs.YtgnopnifdiipkaaDoor
open Go.RowKit
set_option linter.unusedVariables false
set_option linter.unusedSimpArgs false
theorem restU_codL {n : Nat} (hn : n ≤ 4611686018427387904) (R : List Int) : restU (uintB n ++ R) = R := by
  unfold restU
  rw [decU_back hn R]
  show (uintB n ++ R).drop ((uintB n).length : Int).toNat = R
  rw [Int.toNat_natCast, List.drop_left]
theorem decW_codL {x : Int} (x0 : 0 ≤ x) (x1 : x ≤ 18446744073709551615) (R : List Int) : decW (be x.toNat 8 ++ R) = (x, 8, 0) ∧ restW (be x.toNat 8 ++ R) = R := by
  have hl := be_len x.toNat 8
  have h : decW (be x.toNat 8 ++ R) = (x, 8, 0) := by
    unfold decW
    rw [if_neg (by rw [List.length_append, hl]; omega), List.take_left' hl, val_be _ _ (by omega)]
    congr 1
    omega
  refine ⟨h, ?_⟩
  unfold restW
  rw [h]
  exact List.drop_left' hl
theorem dec_codL {c : LL} (h : llE c.P c.L = 0) (x0 : 0 ≤ c.x) (x1 : c.x ≤ 18446744073709551615) : decL (codL c) = c ∧ decLE (codL c) = 0 := by
  obtain ⟨P, x, L⟩ := c
  dsimp only at h x0 x1
  obtain ⟨⟨P0, P1⟩, hl, hb⟩ := llE_ok h
  have n1 : P.toNat ≤ 4611686018427387904 := by omega
  have t1 : ((P.toNat : Nat) : Int) = P := by omega
  have e : codL ⟨P, x, L⟩ = uintB P.toNat ++ (be x.toNat 8 ++ L) := by
    unfold codL
    rw [if_pos h]
    simp only [List.append_assoc]
  generalize codL ⟨P, x, L⟩ = B at *
  have r1 : restU B = be x.toNat 8 ++ L := by rw [e, restU_codL n1]
  have r2 : dlR B = L := by unfold dlR; rw [r1, (decW_codL x0 x1 _).2]
  have v1 : dlP B = P := by unfold dlP; rw [e, decU_back n1]; exact t1
  have v2 : dlX B = x := by unfold dlX; rw [r1, (decW_codL x0 x1 _).1]
  have hok : dlOk B = true := by
    refine (dlOk_iff B).2 ⟨?_, ?_, ?_, ?_, ?_⟩
    · rw [v1]; exact ⟨P0, P1⟩
    · rw [e, decU_back n1]
    · rw [r1, (decW_codL x0 x1 _).1]
    · rw [r2, v1]; exact hl
    · rw [r2, v1]; exact hb
  obtain ⟨w1, w2⟩ := decL_yes hok
  refine ⟨?_, w2⟩
  rw [w1, v1, v2, r2]
end Go.Proofs.YtgnopnifdiipkaaDoor
