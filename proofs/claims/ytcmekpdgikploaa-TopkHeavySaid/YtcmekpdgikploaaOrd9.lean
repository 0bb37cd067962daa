/- The order of entries: total on entries whose keys differ; sorting gives the one list in order. No program. -/
import Derived.Test.YtcmekpdgikploaaSrtN
import Derived.Test.YtcmekpdgikploaaMapE
namespace Go.Proofs.Ytcmekpdgikploaa
open Go.RowKit
set_option linter.unusedVariables false
set_option linter.unusedSimpArgs false
theorem u8_tri (a b : UInt8) : a < b ∨ a = b ∨ b < a := by
  by_cases h : a < b
  · exact .inl h
  · by_cases h2 : b < a
    · exact .inr (.inr h2)
    · exact .inr (.inl (UInt8.le_antisymm (UInt8.not_lt.1 h2) (UInt8.not_lt.1 h)))
theorem less_cons (a b : UInt8) (xs ys : List UInt8) : Op.bytesLess (a :: xs) (b :: ys) = true ↔ a < b ∨ (a = b ∧ Op.bytesLess xs ys = true) := by
  conv => lhs; unfold Op.bytesLess
  simp
theorem less_tri : ∀ a b : List UInt8, Op.bytesLess a b = true ∨ a = b ∨ Op.bytesLess b a = true
  | [], [] => .inr (.inl rfl)
  | [], _ :: _ => .inl (by simp [Op.bytesLess])
  | _ :: _, [] => .inr (.inr (by simp [Op.bytesLess]))
  | a :: xs, b :: ys => by
    rw [less_cons, less_cons]
    rcases u8_tri a b with h | rfl | h
    · exact .inl (.inl h)
    · rcases less_tri xs ys with h | rfl | h
      · exact .inl (.inr ⟨rfl, h⟩)
      · exact .inr (.inl rfl)
      · exact .inr (.inr (.inr ⟨rfl, h⟩))
    · exact .inr (.inr (.inl h))
theorem less_trans : ∀ {a b c : List UInt8}, Op.bytesLess a b = true → Op.bytesLess b c = true → Op.bytesLess a c = true
  | [], _, [], h1, h2 => by
    rename_i b
    cases b <;> simp [Op.bytesLess] at h2
  | [], _, _ :: _, _, _ => by simp [Op.bytesLess]
  | a :: xs, [], _, h1, _ => by simp [Op.bytesLess] at h1
  | a :: xs, b :: ys, [], _, h2 => by simp [Op.bytesLess] at h2
  | a :: xs, b :: ys, c :: zs, h1, h2 => by
    rw [less_cons] at h1 h2 ⊢
    rcases h1 with h1 | ⟨rfl, h1⟩
    · rcases h2 with h2 | ⟨rfl, h2⟩
      · exact .inl (UInt8.lt_trans h1 h2)
      · exact .inl h1
    · rcases h2 with h2 | ⟨rfl, h2⟩
      · exact .inl h2
      · exact .inr ⟨rfl, less_trans h1 h2⟩
theorem less_irr : ∀ a : List UInt8, Op.bytesLess a a = false
  | [] => by simp [Op.bytesLess]
  | a :: xs => by
    cases h : Op.bytesLess (a :: xs) (a :: xs) with
    | false => rfl
    | true =>
      rcases (less_cons a a xs xs).1 h with h | ⟨_, h⟩
      · exact absurd h (UInt8.lt_irrefl a)
      · rw [less_irr xs] at h; cases h
theorem bef_iff (x y : Ent) : bef x y = true ↔ y.c < x.c ∨ (x.c = y.c ∧ lessK x.k y.k = true) := by
  unfold bef
  simp
theorem bef_irr (x : Ent) : bef x x = false := by
  cases h : bef x x with
  | false => rfl
  | true =>
    rcases (bef_iff x x).1 h with h | ⟨_, h⟩
    · omega
    · unfold lessK at h; rw [less_irr] at h; cases h
theorem bef_trans {x y z : Ent} (h1 : bef x y = true) (h2 : bef y z = true) : bef x z = true := by
  rw [bef_iff] at h1 h2 ⊢
  rcases h1 with h1 | ⟨e1, h1⟩
  · rcases h2 with h2 | ⟨e2, h2⟩
    · exact .inl (by omega)
    · exact .inl (by omega)
  · rcases h2 with h2 | ⟨e2, h2⟩
    · exact .inl (by omega)
    · exact .inr ⟨by omega, by unfold lessK at *; exact less_trans h1 h2⟩
theorem bef_tot {x y : Ent} (h : sameK x.k y.k = false) (hn : bef x y = false) : bef y x = true := by
  rw [bef_iff]
  have hn' : ¬ (y.c < x.c ∨ (x.c = y.c ∧ lessK x.k y.k = true)) := fun e => by rw [(bef_iff x y).2 e] at hn; cases hn
  by_cases hlt : x.c < y.c
  · exact .inl hlt
  · have he : x.c = y.c := by omega
    refine .inr ⟨he.symm, ?_⟩
    have hk : lessK x.k y.k ≠ true := fun e => hn' (.inr ⟨he, e⟩)
    unfold lessK at hk ⊢
    rcases less_tri x.k.toList y.k.toList with h1 | h1 | h1
    · exact absurd h1 hk
    · unfold sameK at h; rw [h1] at h; simp at h
    · exact h1
/-- In order. -/
def Sorted (L : List Ent) : Prop := L.Pairwise (fun x y => bef x y = true)
/-- No key twice. -/
def Keyed (L : List Ent) : Prop := L.Pairwise (fun x y => sameK x.k y.k = false)
theorem Keyed.perm {L M : List Ent} (h : Keyed L) (p : M.Perm L) : Keyed M :=
  List.Pairwise.perm h p.symm (fun {x y} hxy => by rw [sameK_comm]; exact hxy)
theorem push_snoc (A : List Ent) (y x : Ent) : push (A ++ [y]) x = if bef x y = true then push A x ++ [y] else A ++ [y] ++ [x] := by
  unfold push
  rw [List.length_append, List.length_singleton]
  have g1 : (A ++ [y] ++ [x]).getD (A.length + 1) Ent.z = x := by simp [List.getD, List.getElem?_append]
  have g0 : (A ++ [y] ++ [x]).getD A.length Ent.z = y := by simp [List.getD, List.getElem?_append]
  conv => lhs; unfold sink
  rw [g1, g0]
  split
  · have e : swp (A ++ [y] ++ [x]) (A.length + 1) = A ++ [x] ++ [y] := by
      unfold swp
      rw [Nat.add_sub_cancel, g1, g0]
      simp [List.set_append]
    rw [e, sink_app [y] A.length (A ++ [x]) (by simp)]
  · rfl
theorem snoc_ind9 {p : List Ent → Prop} (h0 : p []) (h1 : ∀ L c, p L → p (L ++ [c])) (L : List Ent) : p L := by
  rw [← List.reverse_reverse L]
  induction L.reverse with
  | nil => exact h0
  | cons c l ih => rw [List.reverse_cons]; exact h1 _ _ ih
theorem push_sorted {A : List Ent} {x : Ent} (h : Sorted A) (hk : ∀ y ∈ A, sameK x.k y.k = false) : Sorted (push A x) := by
  induction A using snoc_ind9 with
  | h0 => simp [push, sink, Sorted]
  | h1 A y ih =>
    rw [push_snoc]
    unfold Sorted at h ih ⊢
    rw [List.pairwise_append] at h
    obtain ⟨hA, -, hy⟩ := h
    split
    · rename_i hb
      rw [List.pairwise_append]
      refine ⟨ih hA (fun z hz => hk z (List.mem_append_left _ hz)), List.pairwise_singleton _ _, fun a ha b hb' => ?_⟩
      rw [List.mem_singleton] at hb'
      subst hb'
      rcases List.mem_append.1 ((push_perm A x).mem_iff.1 ha) with h1 | h1
      · exact hy a h1 b (by simp)
      · rw [List.mem_singleton] at h1; subst h1; exact hb
    · rename_i hb
      have hyx : bef y x = true := bef_tot (hk y (by simp)) (by simpa using hb)
      rw [List.pairwise_append]
      refine ⟨by rw [List.pairwise_append]; exact ⟨hA, List.pairwise_singleton _ _, hy⟩, List.pairwise_singleton _ _, fun a ha b hb' => ?_⟩
      rw [List.mem_singleton] at hb'
      subst hb'
      rcases List.mem_append.1 ha with h1 | h1
      · exact bef_trans (hy a h1 y (by simp)) hyx
      · rw [List.mem_singleton] at h1; subst h1; exact hyx
theorem foldl_sorted {L : List Ent} : ∀ {A : List Ent}, Sorted A → Keyed (A ++ L) → Sorted (L.foldl push A) := by
  induction L with
  | nil => intro A h _; exact h
  | cons x L ih =>
    intro A h hk
    rw [List.foldl_cons]
    have hk' : Keyed ((A ++ [x]) ++ L) := by simpa using hk
    refine ih (push_sorted h (fun y hy => ?_)) (hk'.perm ((push_perm A x).append_right L))
    unfold Keyed at hk'
    rw [List.pairwise_append, List.pairwise_append] at hk'
    rw [sameK_comm]
    exact hk'.1.2.2 y hy x (by simp)
/-- Sorting entries whose keys differ gives a list in order. -/
theorem sortE_sorted {L : List Ent} (h : Keyed L) : Sorted (sortE L) := foldl_sorted List.Pairwise.nil (by simpa using h)
/-- A list in order is the only one. -/
theorem sorted_uniq : ∀ {L M : List Ent}, Sorted L → Sorted M → L.Perm M → L = M
  | [], M, _, _, p => by rw [p.nil_eq]
  | x :: L, [], _, _, p => by simpa using p.length_eq
  | x :: L, y :: M, hL, hM, p => by
    unfold Sorted at hL hM
    rw [List.pairwise_cons] at hL hM
    have hxy : x = y := by
      have hx := p.mem_iff.1 (List.mem_cons_self (a := x) (l := L))
      have hy := p.symm.mem_iff.1 (List.mem_cons_self (a := y) (l := M))
      rcases List.mem_cons.1 hx with h | h
      · exact h
      · rcases List.mem_cons.1 hy with h' | h'
        · exact h'.symm
        · have h1 := hM.1 x h
          have h2 := hL.1 y h'
          have := bef_trans h1 h2
          rw [bef_irr] at this
          cases this
    subst hxy
    rw [sorted_uniq hL.2 hM.2 (List.perm_cons x |>.1 p)]
theorem sortE_perm_eq {L M : List Ent} (h : Keyed L) (p : L.Perm M) : sortE L = sortE M :=
  sorted_uniq (sortE_sorted h) (sortE_sorted (h.perm p.symm)) ((sortE_perm L).trans (p.trans (sortE_perm M).symm))
theorem sortE_self {L : List Ent} (h : Sorted L) (hk : Keyed L) : sortE L = L := sorted_uniq (sortE_sorted hk) h (sortE_perm L)
end Go.Proofs.Ytcmekpdgikploaa
