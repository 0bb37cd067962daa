/- The order of keys. No program. -/
import Derived.Test.YtmmdnomfpfcjiaaFqN
import Derived.Laws.Cover1
namespace Go.Proofs.Ytmmdnomfpfcjiaa
open Go.RowKit
set_option linter.unusedVariables false
set_option linter.unusedSimpArgs false
theorem u8_triQ (a b : UInt8) : a < b ∨ a = b ∨ b < a := by
  by_cases h : a < b
  · exact .inl h
  · by_cases h2 : b < a
    · exact .inr (.inr h2)
    · exact .inr (.inl (UInt8.le_antisymm (UInt8.not_lt.1 h2) (UInt8.not_lt.1 h)))
theorem lessQ_cons (a b : UInt8) (xs ys : List UInt8) : Op.bytesLess (a :: xs) (b :: ys) = true ↔ a < b ∨ (a = b ∧ Op.bytesLess xs ys = true) := by
  conv => lhs; unfold Op.bytesLess
  simp
theorem lessQ_tri : ∀ a b : List UInt8, Op.bytesLess a b = true ∨ a = b ∨ Op.bytesLess b a = true
  | [], [] => .inr (.inl rfl)
  | [], _ :: _ => .inl (by simp [Op.bytesLess])
  | _ :: _, [] => .inr (.inr (by simp [Op.bytesLess]))
  | a :: xs, b :: ys => by
    rw [lessQ_cons, lessQ_cons]
    rcases u8_triQ a b with h | rfl | h
    · exact .inl (.inl h)
    · rcases lessQ_tri xs ys with h | rfl | h
      · exact .inl (.inr ⟨rfl, h⟩)
      · exact .inr (.inl rfl)
      · exact .inr (.inr (.inr ⟨rfl, h⟩))
    · exact .inr (.inr (.inl h))
theorem lessQ_trans : ∀ {a b c : List UInt8}, Op.bytesLess a b = true → Op.bytesLess b c = true → Op.bytesLess a c = true
  | [], _, [], h1, h2 => by
    rename_i b
    cases b <;> simp [Op.bytesLess] at h2
  | [], _, _ :: _, _, _ => by simp [Op.bytesLess]
  | a :: xs, [], _, h1, _ => by simp [Op.bytesLess] at h1
  | a :: xs, b :: ys, [], _, h2 => by simp [Op.bytesLess] at h2
  | a :: xs, b :: ys, c :: zs, h1, h2 => by
    rw [lessQ_cons] at h1 h2 ⊢
    rcases h1 with h1 | ⟨rfl, h1⟩
    · rcases h2 with h2 | ⟨rfl, h2⟩
      · exact .inl (UInt8.lt_trans h1 h2)
      · exact .inl h1
    · rcases h2 with h2 | ⟨rfl, h2⟩
      · exact .inl h2
      · exact .inr ⟨rfl, lessQ_trans h1 h2⟩
theorem lessQ_irr : ∀ a : List UInt8, Op.bytesLess a a = false
  | [] => by simp [Op.bytesLess]
  | a :: xs => by
    cases h : Op.bytesLess (a :: xs) (a :: xs) with
    | false => rfl
    | true =>
      rcases (lessQ_cons a a xs xs).1 h with h | ⟨_, h⟩
      · exact absurd h (UInt8.lt_irrefl a)
      · rw [lessQ_irr xs] at h; cases h
theorem toL_inj {a b : ByteArray} (h : a.toList = b.toList) : a = b := by
  rw [Lib.toList_data, Lib.toList_data] at h
  exact data_inj h
theorem lessK_tri (a b : ByteArray) : lessK a b = true ∨ a = b ∨ lessK b a = true := by
  unfold lessK
  rcases lessQ_tri a.toList b.toList with h | h | h
  · exact .inl h
  · exact .inr (.inl (toL_inj h))
  · exact .inr (.inr h)
theorem lessK_trans {a b c : ByteArray} (h : lessK a b = true) (k : lessK b c = true) : lessK a c = true := lessQ_trans h k
theorem lessK_irr (a : ByteArray) : lessK a a = false := lessQ_irr _
theorem lessK_asym {a b : ByteArray} (h : lessK a b = true) : lessK b a = false := by
  cases h2 : lessK b a with
  | false => rfl
  | true => have := lessK_trans h h2; rw [lessK_irr] at this; cases this
theorem lessK_ne {a b : ByteArray} (h : lessK a b = true) : sameK a b = false := by
  cases h2 : sameK a b with
  | false => rfl
  | true =>
    have := (sameK_iff a b).1 h2
    subst this
    rw [lessK_irr] at h
    cases h
theorem lessK_ne' {a b : ByteArray} (h : lessK a b = true) : sameK b a = false := by rw [sameK_comm]; exact lessK_ne h
/-- a < b; a = b; b < a: what Go's comparisons of strings give. -/
theorem cmp_lt {a b : ByteArray} (h : lessK a b = true) : Op.bytesLess a.toList b.toList = true ∧ (a.toList == b.toList) = false ∧ Op.bytesLess b.toList a.toList = false ∧ (b.toList == a.toList) = false := ⟨h, lessK_ne h, lessK_asym h, lessK_ne' h⟩
theorem cmp_eq (a : ByteArray) : Op.bytesLess a.toList a.toList = false ∧ (a.toList == a.toList) = true := ⟨lessK_irr a, by simp⟩
theorem lessK_empty {b : ByteArray} (h : keyB (byt b) = true) : lessK ⟨#[]⟩ b = true := by
  have hs : 0 < b.size := by
    unfold keyB at h
    rw [byt_len] at h
    simp at h
    omega
  unfold lessK
  have h2 := str_ne hs
  cases hb : b.toList with
  | nil => rw [hb] at h2; cases h2
  | cons x xs => rw [Lib.toList_data]; rfl
/-- The comparison of two strings as a number. -/
theorem cmpB_gt : ∀ a b : List UInt8, decide (0 < Lib.compareBytes a b) = Op.bytesLess b a
  | [], [] => by decide
  | [], _ :: _ => by simp [Lib.compareBytes, Op.bytesLess]
  | _ :: _, [] => by simp [Lib.compareBytes, Op.bytesLess]
  | a :: xs, b :: ys => by
    have ih := cmpB_gt xs ys
    unfold Lib.compareBytes Op.bytesLess
    by_cases h : a < b
    · have h2 : ¬ b < a := fun h2 => absurd (UInt8.lt_trans h h2) (UInt8.lt_irrefl a)
      have hne : (b == a) = false := by
        rw [beq_eq_false_iff_ne]
        rintro rfl
        exact absurd h h2
      simp [h, h2, hne]
    · by_cases h2 : b < a
      · simp [h, h2]
      · have he : a = b := UInt8.le_antisymm (UInt8.not_lt.1 h2) (UInt8.not_lt.1 h)
        subst he
        simp only [h, if_false, decide_false, Bool.false_or, beq_self_eq_true, Bool.true_and]
        exact ih
def cmpK (a b : ByteArray) : Int := Lib.compareBytes a.data.toList b.data.toList
theorem cmpK_bd (a b : ByteArray) : -1 ≤ cmpK a b ∧ cmpK a b ≤ 1 := cmpB_bd _ _
theorem cmpK_lt (a b : ByteArray) : cmpK a b < 0 ↔ lessK a b = true := by
  unfold cmpK lessK
  rw [Lib.toList_data, Lib.toList_data, ← cmpB_less]
  simp
theorem cmpK_gt (a b : ByteArray) : 0 < cmpK a b ↔ lessK b a = true := by
  unfold cmpK lessK
  rw [Lib.toList_data, Lib.toList_data, ← cmpB_gt]
  simp
theorem cmpK_eq (a b : ByteArray) : cmpK a b = 0 ↔ a = b := by
  have h1 := cmpK_lt a b
  have h2 := cmpK_gt a b
  constructor
  · intro h
    rcases lessK_tri a b with h3 | h3 | h3
    · have := h1.2 h3; omega
    · exact h3
    · have := h2.2 h3; omega
  · rintro rfl
    rw [lessK_irr] at h1 h2
    simp at h1 h2
    omega
/-- The key ahead of position j. -/
def prevK (L : List Ent) (j : Nat) : ByteArray := if j = 0 then ⟨#[]⟩ else (L.getD (j - 1) Ent.z).k
theorem prevK_zero (L : List Ent) : prevK L 0 = ⟨#[]⟩ := rfl
theorem prevK_succ (L : List Ent) (j : Nat) : prevK L (j + 1) = (L.getD j Ent.z).k := by unfold prevK; rw [if_neg (by omega), Nat.add_sub_cancel]
theorem errQ_prev {L : List Ent} {j : Nat} (he : entQ (L.getD j Ent.z) = 0) : errQ L j = if lessK (prevK L j) (L.getD j Ent.z).k = false then 19 else 0 := by
  unfold errQ
  rw [if_neg (by simpa using he)]
  cases j with
  | zero =>
    rw [prevK_zero, lessK_empty (entQ_zero he).1, if_neg (by simp), if_neg (by simp)]
  | succ j =>
    rw [prevK_succ, Nat.add_sub_cancel]
    simp
theorem errQ_bad {L : List Ent} {j : Nat} (he : entQ (L.getD j Ent.z) ≠ 0) : errQ L j = entQ (L.getD j Ent.z) := by
  unfold errQ
  rw [if_pos he]
end Go.Proofs.Ytmmdnomfpfcjiaa
