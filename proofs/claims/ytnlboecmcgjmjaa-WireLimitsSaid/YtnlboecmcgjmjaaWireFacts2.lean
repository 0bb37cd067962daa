/- Plain facts on frames: what was framed is read back; a cut frame; a changed byte of the body. -/
import Derived.Test.YtnlboecmcgjmjaaRUnframe
namespace Go.Proofs.Ytnlboecmcgjmjaa
open Go.RowKit
set_option linter.unusedVariables false
set_option linter.unusedSimpArgs false
theorem adler4 (L : List Int) : adlerN L < 256 ^ 4 := by
  have := adlerN_bd L
  have h4 : (256 : Nat) ^ 4 = 4294967296 := by decide
  omega
theorem headB_len (tag : Int) (B : List Int) : (headB tag B).length = 1 + (uintB B.length).length + B.length := by simp [headB]; omega
theorem headB_byt {tag : Int} {B : List Int} (ht : 0 ≤ tag ∧ tag ≤ 255) (hy : Byt B) (hB : B.length ≤ 1048576) : Byt (headB tag B) := Byt.cons ht ((uintB_byt (by omega)).app hy)
/-- A head, four bytes and whatever follows, read as a frame. -/
theorem unfr_at {tag : Int} {B C : List Int} (hB : B.length ≤ 1048576) (hC : C.length = 4) (R : List Int) :
    unfr (headB tag B ++ (C ++ R)) = if val C ≠ (adlerN (headB tag B) : Nat) then (0, [], 0, 4) else (tag, B, (((headB tag B).length + 4 : Nat) : Int), 0) := by
  have hd : (headB tag B ++ (C ++ R)).drop 1 = uintB B.length ++ (B ++ (C ++ R)) := by simp [headB]
  have hdd := decU_back (n := B.length) (by omega) (B ++ (C ++ R))
  have hl := headB_len tag B
  unfold unfr
  rw [hd, hdd]
  dsimp only
  have hlen : (headB tag B ++ (C ++ R)).length = (headB tag B).length + 4 + R.length := by simp [hC]; omega
  rw [hlen, if_neg (by omega), if_neg (by decide), if_neg (by omega), if_neg (by omega), Int.toNat_natCast, Int.toNat_natCast]
  unfold unfr2
  have e1 : (headB tag B ++ (C ++ R)).take (1 + (uintB B.length).length + B.length) = headB tag B := by rw [← hl]; exact List.take_left' rfl
  have e2 : ((headB tag B ++ (C ++ R)).take (1 + (uintB B.length).length + B.length + 4)).drop (1 + (uintB B.length).length + B.length) = C := by
    rw [← hl, List.drop_take, List.drop_left' rfl, Nat.add_sub_cancel_left, List.take_left' hC]
  have e3 : (headB tag B).drop (1 + (uintB B.length).length) = B := by
    unfold headB
    rw [Nat.add_comm, List.drop_succ_cons, List.drop_left' rfl]
  have e4 : (headB tag B ++ (C ++ R)).getD 0 0 = tag := rfl
  rw [e1, e2, e3, e4, hl]
theorem unfr_back {tag : Int} {B : List Int} (hB : B.length ≤ 1048576) (R : List Int) : unfr (frameB tag B ++ R) = (tag, B, ((frameB tag B).length : Int), 0) := by
  have e : frameB tag B = headB tag B ++ be (adlerN (headB tag B)) 4 := by unfold frameB; rw [if_pos hB]
  rw [e, List.append_assoc, unfr_at hB (be_len _ 4), val_be _ 4 (adler4 _), if_neg (by simp), List.length_append, be_len]
theorem unfr_cut {tag : Int} {B : List Int} (hB : B.length ≤ 1048576) {k : Nat} (hk : k < (frameB tag B).length) : unfr ((frameB tag B).take k) = (0, [], 0, 3) := by
  have e : frameB tag B = headB tag B ++ be (adlerN (headB tag B)) 4 := by unfold frameB; rw [if_pos hB]
  have hl := headB_len tag B
  have hfl : (frameB tag B).length = (headB tag B).length + 4 := by rw [e, List.length_append, be_len]
  have e2 : frameB tag B = tag :: (uintB B.length ++ (B ++ be (adlerN (headB tag B)) 4)) := by rw [e]; simp [headB]
  by_cases hk0 : k = 0
  · subst hk0; rfl
  · obtain ⟨j, rfl⟩ : ∃ j, k = j + 1 := ⟨k - 1, by omega⟩
    have hlen : ((frameB tag B).take (j + 1)).length = j + 1 := by rw [List.length_take]; omega
    have hd : ((frameB tag B).take (j + 1)).drop 1 = (uintB B.length ++ (B ++ be (adlerN (headB tag B)) 4)).take j := by rw [e2]; rfl
    unfold unfr
    rw [hlen, hd, if_neg (by omega), take_app]
    split
    · rename_i h
      rw [decU_cut (by omega) h]
      rfl
    · rename_i h
      rw [decU_back (by omega)]
      dsimp only
      rw [if_neg (by decide), if_neg (by omega), if_pos (by omega)]
theorem sumU_eq (L : List Int) : (sumsUV L).1 = (1 + L.sum) % 65521 := by
  induction L using snoc_ind with
  | h0 => rfl
  | h1 L c ih =>
    rw [sums_snoc, List.sum_append]
    dsimp only
    rw [ih]
    have : [c].sum = c := by simp
    rw [this]
    omega
theorem adler_ne {L M : List Int} (h : (L.sum - M.sum) % 65521 ≠ 0) : adlerN L ≠ adlerN M := by
  intro he
  have h1 := adlerN_eq L
  have h2 := adlerN_eq M
  have b1 := sums_bd L
  have b2 := sums_bd M
  unfold adler at h1 h2
  have s1 := sumU_eq L
  have s2 := sumU_eq M
  rw [he] at h1
  have : (sumsUV L).1 = (sumsUV M).1 := by omega
  apply h
  omega
theorem sum_set : ∀ (L : List Int) (i : Nat) (c : Int), i < L.length → (L.set i c).sum = L.sum + c - L.getD i 0
  | [], i, c, h => by simp at h
  | a :: L, 0, c, h => by simp [List.getD]; omega
  | a :: L, i + 1, c, h => by
    have := sum_set L i c (by simpa using h)
    simp only [List.set_cons_succ, List.sum_cons, this]
    have e : (a :: L).getD (i + 1) 0 = L.getD i 0 := rfl
    rw [e]
    omega
/-- A frame, a byte of whose body has been changed. -/
theorem unfr_torn {tag : Int} {B : List Int} (hB : B.length ≤ 1048576) (hy : Byt B) {i : Nat} (hi : i < B.length) {c : Int} (hc : 0 ≤ c ∧ c ≤ 255) (hne : c ≠ B.getD i 0) :
    unfr ((frameB tag B).set ((headB tag B).length - B.length + i) c) = (0, [], 0, 4) := by
  have e : frameB tag B = headB tag B ++ be (adlerN (headB tag B)) 4 := by unfold frameB; rw [if_pos hB]
  have hl := headB_len tag B
  have hidx : (headB tag B).length - B.length + i = (uintB B.length).length + i + 1 := by omega
  have hset : (headB tag B).set ((uintB B.length).length + i + 1) c = headB tag (B.set i c) := by
    unfold headB
    rw [List.set_cons_succ, List.set_append_right _ _ (by omega), Nat.add_sub_cancel_left, List.length_set]
  rw [e, List.set_append_left _ _ (by omega), hidx, hset]
  have hat := unfr_at (tag := tag) (B := B.set i c) (C := be (adlerN (headB tag B)) 4) (by rw [List.length_set]; exact hB) (be_len _ 4) []
  rw [List.append_nil] at hat
  rw [hat, val_be _ 4 (adler4 _), if_pos]
  intro h
  have hb := hy.at_ i
  have hs : (headB tag B).sum - (headB tag (B.set i c)).sum = B.getD i 0 - c := by
    have hs1 := sum_set B i c hi
    unfold headB
    rw [List.length_set, List.sum_cons, List.sum_cons, List.sum_append, List.sum_append, hs1]
    omega
  exact adler_ne (L := headB tag B) (M := headB tag (B.set i c)) (by rw [hs]; omega) (by omega)
theorem xor_u8_bd (a b : Int) (a0 : 0 ≤ a ∧ a ≤ 255) (b0 : 0 ≤ b ∧ b ≤ 255) (hb : b ≠ 0) : 0 ≤ bits .xor .u8 a b ∧ bits .xor .u8 a b ≤ 255 ∧ bits .xor .u8 a b ≠ a := by
  rw [u8_xor a b a0.1 (by omega) b0.1 (by omega)]
  have h : a.toNat ^^^ b.toNat < 2 ^ 8 := Nat.xor_lt_two_pow (by omega) (by omega)
  refine ⟨by omega, by omega, fun he => ?_⟩
  have he2 : a.toNat ^^^ b.toNat = a.toNat := by omega
  have h0 : b.toNat = 0 := by
    have := congrArg (fun t => a.toNat ^^^ t) he2
    simp only [← Nat.xor_assoc, Nat.xor_self, Nat.zero_xor] at this
    exact this
  omega
end Go.Proofs.Ytnlboecmcgjmjaa
