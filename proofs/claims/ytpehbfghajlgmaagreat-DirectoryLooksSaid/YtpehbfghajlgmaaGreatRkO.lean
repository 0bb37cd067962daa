/- The order of strings; ascending lists of them. No program. -/
import Derived.Test.YtpehbfghajlgmaaGreatItem
import Derived.Test.YtpehbfghajlgmaaGreatStrRow
import Derived.Laws.Cover1
namespace Go.Proofs.YtpehbfghajlgmaaGreat
open Go.RowKit
set_option linter.unusedVariables false
set_option linter.unusedSimpArgs false
def lessK (a b : ByteArray) : Bool := Op.bytesLess a.toList b.toList
theorem data_inj {a b : ByteArray} (h : a.data.toList = b.data.toList) : a = b := by
  cases a; cases b
  simp only [ByteArray.mk.injEq]
  exact Array.toList_inj.1 h
theorem u8_triQ (a b : UInt8) : a < b ∨ a = b ∨ b < a := by
  by_cases h : a < b
  · exact .inl h
  · by_cases h2 : b < a
    · exact .inr (.inr h2)
    · exact .inr (.inl (UInt8.le_antisymm (UInt8.not_lt.1 h2) (UInt8.not_lt.1 h)))
theorem lessQ_cons (a b : UInt8) (xs ys : List UInt8) : Op.bytesLess (a :: xs) (b :: ys) = true ↔ a < b ∨ (a = b ∧ Op.bytesLess xs ys = true) := by
  conv => lhs; unfold Op.bytesLess
  simp
theorem lessQ_tri : ∀ a b : List UInt8, Op.bytesLess a b = true ∨ a = b ∨ Op.bytesLess b a = true
  | [], [] => .inr (.inl rfl)
  | [], _ :: _ => .inl (by simp [Op.bytesLess])
  | _ :: _, [] => .inr (.inr (by simp [Op.bytesLess]))
  | a :: xs, b :: ys => by
    rw [lessQ_cons, lessQ_cons]
    rcases u8_triQ a b with h | rfl | h
    · exact .inl (.inl h)
    · rcases lessQ_tri xs ys with h | rfl | h
      · exact .inl (.inr ⟨rfl, h⟩)
      · exact .inr (.inl rfl)
      · exact .inr (.inr (.inr ⟨rfl, h⟩))
    · exact .inr (.inr (.inl h))
theorem lessQ_trans : ∀ {a b c : List UInt8}, Op.bytesLess a b = true → Op.bytesLess b c = true → Op.bytesLess a c = true
  | [], _, [], h1, h2 => by
    rename_i b
    cases b <;> simp [Op.bytesLess] at h2
  | [], _, _ :: _, _, _ => by simp [Op.bytesLess]
  | a :: xs, [], _, h1, _ => by simp [Op.bytesLess] at h1
  | a :: xs, b :: ys, [], _, h2 => by simp [Op.bytesLess] at h2
  | a :: xs, b :: ys, c :: zs, h1, h2 => by
    rw [lessQ_cons] at h1 h2 ⊢
    rcases h1 with h1 | ⟨rfl, h1⟩
    · rcases h2 with h2 | ⟨rfl, h2⟩
      · exact .inl (UInt8.lt_trans h1 h2)
      · exact .inl h1
    · rcases h2 with h2 | ⟨rfl, h2⟩
      · exact .inl h2
      · exact .inr ⟨rfl, lessQ_trans h1 h2⟩
theorem lessQ_irr : ∀ a : List UInt8, Op.bytesLess a a = false
  | [] => by simp [Op.bytesLess]
  | a :: xs => by
    cases h : Op.bytesLess (a :: xs) (a :: xs) with
    | false => rfl
    | true =>
      rcases (lessQ_cons a a xs xs).1 h with h | ⟨_, h⟩
      · exact absurd h (UInt8.lt_irrefl a)
      · rw [lessQ_irr xs] at h; cases h
theorem toL_inj {a b : ByteArray} (h : a.toList = b.toList) : a = b := by
  rw [Lib.toList_data, Lib.toList_data] at h
  exact data_inj h
theorem lessK_tri (a b : ByteArray) : lessK a b = true ∨ a = b ∨ lessK b a = true := by
  unfold lessK
  rcases lessQ_tri a.toList b.toList with h | h | h
  · exact .inl h
  · exact .inr (.inl (toL_inj h))
  · exact .inr (.inr h)
theorem lessK_trans {a b c : ByteArray} (h : lessK a b = true) (k : lessK b c = true) : lessK a c = true := lessQ_trans h k
theorem lessK_irr (a : ByteArray) : lessK a a = false := lessQ_irr _
theorem lessK_asym {a b : ByteArray} (h : lessK a b = true) : lessK b a = false := by
  cases h2 : lessK b a with
  | false => rfl
  | true => have := lessK_trans h h2; rw [lessK_irr] at this; cases this
theorem leK_trans {a b c : ByteArray} (h : lessK b a = false) (k : lessK c b = false) : lessK c a = false := by
  cases hc : lessK c a with
  | false => rfl
  | true =>
    rcases lessK_tri a b with h1 | h1 | h1
    · rw [lessK_trans hc h1] at k; cases k
    · subst h1; rw [hc] at k; cases k
    · rw [h1] at h; cases h
theorem leK_anti {a b : ByteArray} (h : lessK b a = false) (k : lessK a b = false) : a = b := by
  rcases lessK_tri a b with h1 | h1 | h1
  · rw [h1] at k; cases k
  · exact h1
  · rw [h1] at h; cases h
theorem lessK_zero (a : ByteArray) : lessK a ⟨#[]⟩ = false := by
  unfold lessK
  have : (⟨#[]⟩ : ByteArray).toList = [] := by rw [Lib.toList_data]
  rw [this]
  cases a.toList <;> rfl
theorem lessK_empty (a : ByteArray) : lessK a ByteArray.empty = false := lessK_zero a
/-- No string is less than one ahead of it. -/
def Asc (L : List ByteArray) : Prop := L.Pairwise (fun x y => lessK y x = false)
theorem asc_uniq : ∀ {L M : List ByteArray}, Asc L → Asc M → L.Perm M → L = M
  | [], M, _, _, p => by rw [p.nil_eq]
  | x :: L, [], _, _, p => by simpa using p.length_eq
  | x :: L, y :: M, hL, hM, p => by
    unfold Asc at hL hM
    rw [List.pairwise_cons] at hL hM
    have hxy : x = y := by
      have hx := p.mem_iff.1 (List.mem_cons_self (a := x) (l := L))
      have hy := p.symm.mem_iff.1 (List.mem_cons_self (a := y) (l := M))
      rcases List.mem_cons.1 hx with h | h
      · exact h
      · rcases List.mem_cons.1 hy with h' | h'
        · exact h'.symm
        · exact leK_anti (hL.1 y h') (hM.1 x h)
    subst hxy
    rw [asc_uniq hL.2 hM.2 (List.perm_cons x |>.1 p)]
theorem Asc.at_ {L : List ByteArray} (h : Asc L) {i j : Nat} (hij : i ≤ j) (hj : j < L.length) : lessK (L.getD j ByteArray.empty) (L.getD i ByteArray.empty) = false := by
  rw [show L.getD i ByteArray.empty = L[i]'(by omega) by simp [List.getD, show i < L.length by omega], show L.getD j ByteArray.empty = L[j] by simp [List.getD, hj]]
  rcases Nat.lt_or_ge i j with h1 | h1
  · exact List.pairwise_iff_getElem.1 h i j (by omega) hj h1
  · obtain rfl : i = j := by omega
    exact lessK_irr _
theorem asc_of {L : List ByteArray} (h : ∀ j, j + 1 < L.length → lessK (L.getD (j + 1) ByteArray.empty) (L.getD j ByteArray.empty) = false) : Asc L := by
  induction L with
  | nil => exact List.Pairwise.nil
  | cons x L ih =>
    have ih := ih (fun j hj => by simpa using h (j + 1) (by simpa using hj))
    refine List.pairwise_cons.2 ⟨fun y hy => ?_, ih⟩
    cases L with
    | nil => cases hy
    | cons z L =>
      have h0 : lessK z x = false := by simpa using h 0 (by simp)
      rcases List.mem_cons.1 hy with rfl | hy
      · exact h0
      · exact leK_trans h0 ((List.pairwise_cons.1 ih).1 y hy)
end Go.Proofs.YtpehbfghajlgmaaGreat
