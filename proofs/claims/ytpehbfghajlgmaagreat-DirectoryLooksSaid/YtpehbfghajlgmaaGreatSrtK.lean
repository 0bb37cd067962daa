/- Sorting strings by letting each sink to its place. No program. -/
import Derived.Test.YtpehbfghajlgmaaGreatRkO
namespace Go.Proofs.YtpehbfghajlgmaaGreat
open Go.RowKit
set_option linter.unusedVariables false
set_option linter.unusedSimpArgs false
/-- Entries j and j - 1 change places. -/
def swpK (L : List ByteArray) (j : Nat) : List ByteArray := (L.set j (L.getD (j - 1) ByteArray.empty)).set (j - 1) (L.getD j ByteArray.empty)
/-- Entry j goes ahead as long as it comes before its neighbour. -/
def sinkK (L : List ByteArray) : Nat → List ByteArray
  | 0 => L
  | j + 1 => if lessK (L.getD (j + 1) ByteArray.empty) (L.getD j ByteArray.empty) = true then sinkK (swpK L (j + 1)) j else L
def pushK (A : List ByteArray) (x : ByteArray) : List ByteArray := sinkK (A ++ [x]) A.length
/-- The first i entries of L, sorted. -/
def srtK (L : List ByteArray) (i : Nat) : List ByteArray := (L.take i).foldl pushK []
def sortK (L : List ByteArray) : List ByteArray := L.foldl pushK []
theorem swp_lenK (L : List ByteArray) (j : Nat) : (swpK L j).length = L.length := by simp [swpK]
theorem sink_lenK (L : List ByteArray) (j : Nat) : (sinkK L j).length = L.length := by
  induction j generalizing L with
  | zero => rfl
  | succ j ih =>
    unfold sinkK
    split
    · rw [ih, swp_lenK]
    · rfl
theorem push_lenK (A : List ByteArray) (x : ByteArray) : (pushK A x).length = A.length + 1 := by simp [pushK, sink_lenK]
theorem foldl_lenK (L : List ByteArray) : ∀ A : List ByteArray, (L.foldl pushK A).length = A.length + L.length := by
  induction L with
  | nil => intro A; simp
  | cons x L ih => intro A; rw [List.foldl_cons, ih, push_lenK, List.length_cons]; omega
theorem srt_lenK (L : List ByteArray) {i : Nat} (h : i ≤ L.length) : (srtK L i).length = i := by
  unfold srtK
  rw [foldl_lenK, List.length_take, List.length_nil]
  omega
theorem sortK_len (L : List ByteArray) : (sortK L).length = L.length := by
  unfold sortK
  rw [foldl_lenK]
  simp
theorem srt_zeroK (L : List ByteArray) : srtK L 0 = [] := rfl
theorem srt_allK (L : List ByteArray) : srtK L L.length = sortK L := by rw [srtK, sortK, List.take_length]
theorem srt_succK {L : List ByteArray} {i : Nat} (h : i < L.length) : srtK L (i + 1) = sinkK (srtK L i ++ [L.getD i ByteArray.empty]) i := by
  have e : L.take (i + 1) = L.take i ++ [L.getD i ByteArray.empty] := by
    rw [List.take_succ_eq_append_getElem h]
    simp [List.getD, h]
  have hl := srt_lenK L (Nat.le_of_lt h)
  unfold srtK at hl ⊢
  rw [e, List.foldl_append, List.foldl_cons, List.foldl_nil]
  show sinkK (_ ++ [L.getD i ByteArray.empty]) (List.foldl pushK [] (List.take i L)).length = _
  rw [hl]
theorem getD_app_leftK {A : List ByteArray} (T : List ByteArray) {j : Nat} (h : j < A.length) : (A ++ T).getD j ByteArray.empty = A.getD j ByteArray.empty := by
  simp [List.getD, List.getElem?_append_left h]
theorem swp_appK {A : List ByteArray} (T : List ByteArray) {j : Nat} (h : j < A.length) : swpK (A ++ T) j = swpK A j ++ T := by
  unfold swpK
  rw [getD_app_leftK T h, getD_app_leftK T (show j - 1 < A.length by omega), List.set_append_left _ _ h, List.set_append_left _ _ (by rw [List.length_set]; omega)]
theorem sink_appK (T : List ByteArray) (j : Nat) : ∀ A : List ByteArray, j < A.length → sinkK (A ++ T) j = sinkK A j ++ T := by
  induction j with
  | zero => intro A _; rfl
  | succ j ih =>
    intro A h
    unfold sinkK
    rw [getD_app_leftK T h, getD_app_leftK T (show j < A.length by omega), swp_appK T h, ih _ (by rw [swp_lenK]; omega)]
    split <;> rfl
/-- The first i entries sorted, the others as they were. -/
def upToK (L : List ByteArray) (i : Nat) : List ByteArray := srtK L i ++ L.drop i
theorem upTo_lenK (L : List ByteArray) {i : Nat} (h : i ≤ L.length) : (upToK L i).length = L.length := by
  unfold upToK
  rw [List.length_append, srt_lenK L h, List.length_drop]
  omega
theorem upTo_zeroK (L : List ByteArray) : upToK L 0 = L := by simp [upToK, srtK]
theorem upTo_oneK (L : List ByteArray) : upToK L 1 = L := by
  cases L with
  | nil => rfl
  | cons x L => simp [upToK, srtK, pushK, sinkK]
theorem upTo_allK (L : List ByteArray) : upToK L L.length = sortK L := by simp [upToK, srt_allK]
theorem upTo_succK {L : List ByteArray} {i : Nat} (h : i < L.length) : upToK L (i + 1) = sinkK (upToK L i) i := by
  have e : L.drop i = [L.getD i ByteArray.empty] ++ L.drop (i + 1) := by
    rw [List.drop_eq_getElem_cons h]
    simp [List.getD, h]
  unfold upToK
  rw [srt_succK h, e, ← List.append_assoc, sink_appK (L.drop (i + 1)) i (srtK L i ++ [L.getD i ByteArray.empty])]
  rw [List.length_append, srt_lenK L (Nat.le_of_lt h)]
  simp
theorem swp_permK {L : List ByteArray} {j : Nat} (h : j < L.length) (h0 : 0 < j) : (swpK L j).Perm L := by
  obtain ⟨i, rfl⟩ : ∃ i, j = i + 1 := ⟨j - 1, by omega⟩
  unfold swpK
  rw [Nat.add_sub_cancel]
  induction i generalizing L with
  | zero =>
    match L, h with
    | a :: b :: L, _ => exact List.Perm.swap _ _ _
  | succ i ih =>
    match L, h with
    | a :: L, h =>
      have := ih (L := L) (by simp at h; omega) (by omega)
      simpa using this
theorem sink_permK (j : Nat) : ∀ L : List ByteArray, j < L.length → (sinkK L j).Perm L := by
  induction j with
  | zero => intro L _; exact List.Perm.refl _
  | succ j ih =>
    intro L h
    unfold sinkK
    split
    · exact (ih _ (by rw [swp_lenK]; omega)).trans (swp_permK h (by omega))
    · exact List.Perm.refl _
theorem push_permK (A : List ByteArray) (x : ByteArray) : (pushK A x).Perm (A ++ [x]) := sink_permK _ _ (by simp)
theorem foldl_permK (L : List ByteArray) : ∀ A : List ByteArray, (L.foldl pushK A).Perm (A ++ L) := by
  induction L with
  | nil => intro A; simp
  | cons x L ih =>
    intro A
    refine (ih _).trans ?_
    refine ((push_permK A x).append_right L).trans ?_
    rw [List.append_assoc]
    exact List.Perm.refl _
theorem sortK_perm (L : List ByteArray) : (sortK L).Perm L := foldl_permK L []
theorem srt_permK (L : List ByteArray) (i : Nat) : (srtK L i).Perm (L.take i) := foldl_permK _ []
theorem pushK_snoc (A : List ByteArray) (y x : ByteArray) : pushK (A ++ [y]) x = if lessK x y = true then pushK A x ++ [y] else A ++ [y] ++ [x] := by
  unfold pushK
  rw [List.length_append, List.length_singleton]
  conv => lhs; unfold sinkK
  have e1 : (A ++ [y] ++ [x]).getD (A.length + 1) ByteArray.empty = x := by simp [List.getD]
  have e2 : (A ++ [y] ++ [x]).getD A.length ByteArray.empty = y := by simp [List.getD]
  rw [e1, e2]
  by_cases h : lessK x y = true
  · rw [if_pos h, if_pos h]
    have e3 : swpK (A ++ [y] ++ [x]) (A.length + 1) = (A ++ [x]) ++ [y] := by
      unfold swpK
      rw [Nat.add_sub_cancel, e1, e2]
      simp [List.set_append]
    rw [e3, sink_appK [y] A.length (A ++ [x]) (by simp)]
  · rw [if_neg h, if_neg h]
theorem snoc_indK {p : List ByteArray → Prop} (h0 : p []) (h1 : ∀ L c, p L → p (L ++ [c])) (L : List ByteArray) : p L := by
  rw [← List.reverse_reverse L]
  induction L.reverse with
  | nil => exact h0
  | cons x l ih => rw [List.reverse_cons]; exact h1 _ _ ih
theorem pushK_sorted {A : List ByteArray} {x : ByteArray} (h : Asc A) : Asc (pushK A x) := by
  revert h
  refine snoc_indK (p := fun A => Asc A → Asc (pushK A x)) ?_ ?_ A
  · intro _
    exact List.pairwise_singleton _ _
  · intro A y ih h
    rw [pushK_snoc]
    have h' := List.pairwise_append.1 h
    by_cases hb : lessK x y = true
    · rw [if_pos hb]
      refine List.pairwise_append.2 ⟨ih h'.1, List.pairwise_singleton _ _, fun a ha b hb' => ?_⟩
      rw [List.mem_singleton] at hb'
      subst hb'
      have := (push_permK A x).mem_iff.1 ha
      rcases List.mem_append.1 this with h2 | h2
      · exact h'.2.2 a h2 b (by simp)
      · rw [List.mem_singleton] at h2; subst h2; exact lessK_asym hb
    · rw [if_neg hb]
      refine List.pairwise_append.2 ⟨h, List.pairwise_singleton _ _, fun a ha b hb' => ?_⟩
      rw [List.mem_singleton] at hb'
      subst hb'
      rcases List.mem_append.1 ha with h2 | h2
      · exact leK_trans (h'.2.2 a h2 y (by simp)) (by simpa using hb)
      · rw [List.mem_singleton] at h2; subst h2; simpa using hb
theorem foldlK_sorted {L : List ByteArray} : ∀ {A : List ByteArray}, Asc A → Asc (L.foldl pushK A) := by
  induction L with
  | nil => intro A h; exact h
  | cons x L ih => intro A h; exact ih (pushK_sorted h)
theorem sortK_sorted (L : List ByteArray) : Asc (sortK L) := foldlK_sorted List.Pairwise.nil
end Go.Proofs.YtpehbfghajlgmaaGreat
