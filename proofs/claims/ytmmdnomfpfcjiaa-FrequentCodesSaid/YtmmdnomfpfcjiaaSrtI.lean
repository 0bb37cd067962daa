/- Sorting ints by letting each sink to its place. No program. -/
import Derived.Test.YtmmdnomfpfcjiaaSrtN
namespace Go.Proofs.Ytmmdnomfpfcjiaa
open Go.RowKit
set_option linter.unusedVariables false
set_option linter.unusedSimpArgs false
/-- Entries j and j - 1 change places. -/
def swpI (L : List Int) (j : Nat) : List Int := (L.set j (L.getD (j - 1) 0)).set (j - 1) (L.getD j 0)
/-- Entry j goes ahead as long as it comes before its neighbour. -/
def sinkI (L : List Int) : Nat → List Int
  | 0 => L
  | j + 1 => if L.getD (j + 1) 0 < L.getD j 0 then sinkI (swpI L (j + 1)) j else L
def pushI (A : List Int) (x : Int) : List Int := sinkI (A ++ [x]) A.length
/-- The first i entries of L, sorted. -/
def srtI (L : List Int) (i : Nat) : List Int := (L.take i).foldl pushI []
def sortI (L : List Int) : List Int := L.foldl pushI []
theorem swp_lenI (L : List Int) (j : Nat) : (swpI L j).length = L.length := by simp [swpI]
theorem sink_lenI (L : List Int) (j : Nat) : (sinkI L j).length = L.length := by
  induction j generalizing L with
  | zero => rfl
  | succ j ih =>
    unfold sinkI
    split
    · rw [ih, swp_lenI]
    · rfl
theorem push_lenI (A : List Int) (x : Int) : (pushI A x).length = A.length + 1 := by simp [pushI, sink_lenI]
theorem foldl_lenI (L : List Int) : ∀ A : List Int, (L.foldl pushI A).length = A.length + L.length := by
  induction L with
  | nil => intro A; simp
  | cons x L ih => intro A; rw [List.foldl_cons, ih, push_lenI, List.length_cons]; omega
theorem srt_lenI (L : List Int) {i : Nat} (h : i ≤ L.length) : (srtI L i).length = i := by
  unfold srtI
  rw [foldl_lenI, List.length_take, List.length_nil]
  omega
theorem sortI_len (L : List Int) : (sortI L).length = L.length := by
  unfold sortI
  rw [foldl_lenI]
  simp
theorem srt_zeroI (L : List Int) : srtI L 0 = [] := rfl
theorem srt_allI (L : List Int) : srtI L L.length = sortI L := by rw [srtI, sortI, List.take_length]
theorem srt_succI {L : List Int} {i : Nat} (h : i < L.length) : srtI L (i + 1) = sinkI (srtI L i ++ [L.getD i 0]) i := by
  have e : L.take (i + 1) = L.take i ++ [L.getD i 0] := by
    rw [List.take_succ_eq_append_getElem h]
    simp [List.getD, h]
  have hl := srt_lenI L (Nat.le_of_lt h)
  unfold srtI at hl ⊢
  rw [e, List.foldl_append, List.foldl_cons, List.foldl_nil]
  show sinkI (_ ++ [L.getD i 0]) (List.foldl pushI [] (List.take i L)).length = _
  rw [hl]
theorem getD_app_leftI {A : List Int} (T : List Int) {j : Nat} (h : j < A.length) : (A ++ T).getD j 0 = A.getD j 0 := by
  simp [List.getD, List.getElem?_append_left h]
theorem swp_appI {A : List Int} (T : List Int) {j : Nat} (h : j < A.length) : swpI (A ++ T) j = swpI A j ++ T := by
  unfold swpI
  rw [getD_app_leftI T h, getD_app_leftI T (show j - 1 < A.length by omega), List.set_append_left _ _ h, List.set_append_left _ _ (by rw [List.length_set]; omega)]
theorem sink_appI (T : List Int) (j : Nat) : ∀ A : List Int, j < A.length → sinkI (A ++ T) j = sinkI A j ++ T := by
  induction j with
  | zero => intro A _; rfl
  | succ j ih =>
    intro A h
    unfold sinkI
    rw [getD_app_leftI T h, getD_app_leftI T (show j < A.length by omega), swp_appI T h, ih _ (by rw [swp_lenI]; omega)]
    split <;> rfl
/-- The first i entries sorted, the others as they were. -/
def upToI (L : List Int) (i : Nat) : List Int := srtI L i ++ L.drop i
theorem upTo_lenI (L : List Int) {i : Nat} (h : i ≤ L.length) : (upToI L i).length = L.length := by
  unfold upToI
  rw [List.length_append, srt_lenI L h, List.length_drop]
  omega
theorem upTo_zeroI (L : List Int) : upToI L 0 = L := by simp [upToI, srtI]
theorem upTo_oneI (L : List Int) : upToI L 1 = L := by
  cases L with
  | nil => rfl
  | cons x L => simp [upToI, srtI, pushI, sinkI]
theorem upTo_allI (L : List Int) : upToI L L.length = sortI L := by simp [upToI, srt_allI]
theorem upTo_succI {L : List Int} {i : Nat} (h : i < L.length) : upToI L (i + 1) = sinkI (upToI L i) i := by
  have e : L.drop i = [L.getD i 0] ++ L.drop (i + 1) := by
    rw [List.drop_eq_getElem_cons h]
    simp [List.getD, h]
  unfold upToI
  rw [srt_succI h, e, ← List.append_assoc, sink_appI (L.drop (i + 1)) i (srtI L i ++ [L.getD i 0])]
  rw [List.length_append, srt_lenI L (Nat.le_of_lt h)]
  simp
theorem swp_permI {L : List Int} {j : Nat} (h : j < L.length) (h0 : 0 < j) : (swpI L j).Perm L := by
  obtain ⟨i, rfl⟩ : ∃ i, j = i + 1 := ⟨j - 1, by omega⟩
  unfold swpI
  rw [Nat.add_sub_cancel]
  induction i generalizing L with
  | zero =>
    match L, h with
    | a :: b :: L, _ => exact List.Perm.swap _ _ _
  | succ i ih =>
    match L, h with
    | a :: L, h =>
      have := ih (L := L) (by simp at h; omega) (by omega)
      simpa using this
theorem sink_permI (j : Nat) : ∀ L : List Int, j < L.length → (sinkI L j).Perm L := by
  induction j with
  | zero => intro L _; exact List.Perm.refl _
  | succ j ih =>
    intro L h
    unfold sinkI
    split
    · exact (ih _ (by rw [swp_lenI]; omega)).trans (swp_permI h (by omega))
    · exact List.Perm.refl _
theorem push_permI (A : List Int) (x : Int) : (pushI A x).Perm (A ++ [x]) := sink_permI _ _ (by simp)
theorem foldl_permI (L : List Int) : ∀ A : List Int, (L.foldl pushI A).Perm (A ++ L) := by
  induction L with
  | nil => intro A; simp
  | cons x L ih =>
    intro A
    refine (ih _).trans ?_
    refine ((push_permI A x).append_right L).trans ?_
    rw [List.append_assoc]
    exact List.Perm.refl _
theorem sortI_perm (L : List Int) : (sortI L).Perm L := foldl_permI L []
theorem srt_permI (L : List Int) (i : Nat) : (srtI L i).Perm (L.take i) := foldl_permI _ []
theorem pushI_snoc (A : List Int) (y x : Int) : pushI (A ++ [y]) x = if x < y then pushI A x ++ [y] else A ++ [y] ++ [x] := by
  unfold pushI
  rw [List.length_append, List.length_singleton]
  conv => lhs; unfold sinkI
  have e1 : (A ++ [y] ++ [x]).getD (A.length + 1) 0 = x := by simp [List.getD]
  have e2 : (A ++ [y] ++ [x]).getD A.length 0 = y := by simp [List.getD]
  rw [e1, e2]
  by_cases h : x < y
  · rw [if_pos h, if_pos h]
    have e3 : swpI (A ++ [y] ++ [x]) (A.length + 1) = (A ++ [x]) ++ [y] := by
      unfold swpI
      rw [Nat.add_sub_cancel, e1, e2]
      simp [List.set_append]
    rw [e3, sink_appI [y] A.length (A ++ [x]) (by simp)]
  · rw [if_neg h, if_neg h]
theorem snoc_indI {p : List Int → Prop} (h0 : p []) (h1 : ∀ L c, p L → p (L ++ [c])) (L : List Int) : p L := by
  rw [← List.reverse_reverse L]
  induction L.reverse with
  | nil => exact h0
  | cons x l ih => rw [List.reverse_cons]; exact h1 _ _ ih
def UpI (L : List Int) : Prop := L.Pairwise (fun x y => x ≤ y)
theorem pushI_sorted {A : List Int} {x : Int} (h : UpI A) : UpI (pushI A x) := by
  revert h
  refine snoc_indI (p := fun A => UpI A → UpI (pushI A x)) ?_ ?_ A
  · intro _
    exact List.pairwise_singleton _ _
  · intro A y ih h
    rw [pushI_snoc]
    have h' := List.pairwise_append.1 h
    by_cases hb : x < y
    · rw [if_pos hb]
      refine List.pairwise_append.2 ⟨ih h'.1, List.pairwise_singleton _ _, fun a ha b hb' => ?_⟩
      rw [List.mem_singleton] at hb'
      subst hb'
      have := (push_permI A x).mem_iff.1 ha
      rcases List.mem_append.1 this with h2 | h2
      · exact h'.2.2 a h2 b (by simp)
      · rw [List.mem_singleton] at h2; omega
    · rw [if_neg hb]
      refine List.pairwise_append.2 ⟨h, List.pairwise_singleton _ _, fun a ha b hb' => ?_⟩
      rw [List.mem_singleton] at hb'
      subst hb'
      rcases List.mem_append.1 ha with h2 | h2
      · have := h'.2.2 a h2 y (by simp); omega
      · rw [List.mem_singleton] at h2; omega
theorem foldlI_sorted {L : List Int} : ∀ {A : List Int}, UpI A → UpI (L.foldl pushI A) := by
  induction L with
  | nil => intro A h; exact h
  | cons x L ih => intro A h; exact ih (pushI_sorted h)
theorem sortI_sorted (L : List Int) : UpI (sortI L) := foldlI_sorted List.Pairwise.nil
end Go.Proofs.Ytmmdnomfpfcjiaa
