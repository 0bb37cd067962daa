/- Sorting entries by letting each sink to its place. No program. -/
import Derived.Test.YtmmdnomfpfcjiaaOrdE
namespace Go.Proofs.Ytmmdnomfpfcjiaa
open Go.RowKit
set_option linter.unusedVariables false
set_option linter.unusedSimpArgs false
/-- Entries j and j - 1 change places. -/
def swp (L : List Ent) (j : Nat) : List Ent := (L.set j (L.getD (j - 1) Ent.z)).set (j - 1) (L.getD j Ent.z)
/-- Entry j goes ahead as long as it comes before its neighbour. -/
def sink (L : List Ent) : Nat → List Ent
  | 0 => L
  | j + 1 => if bef (L.getD (j + 1) Ent.z) (L.getD j Ent.z) = true then sink (swp L (j + 1)) j else L
def push (A : List Ent) (x : Ent) : List Ent := sink (A ++ [x]) A.length
/-- The first i entries of L, sorted. -/
def srt (L : List Ent) (i : Nat) : List Ent := (L.take i).foldl push []
def sortE (L : List Ent) : List Ent := L.foldl push []
theorem swp_len (L : List Ent) (j : Nat) : (swp L j).length = L.length := by simp [swp]
theorem sink_len (L : List Ent) (j : Nat) : (sink L j).length = L.length := by
  induction j generalizing L with
  | zero => rfl
  | succ j ih =>
    unfold sink
    split
    · rw [ih, swp_len]
    · rfl
theorem push_len (A : List Ent) (x : Ent) : (push A x).length = A.length + 1 := by simp [push, sink_len]
theorem foldl_len (L : List Ent) : ∀ A : List Ent, (L.foldl push A).length = A.length + L.length := by
  induction L with
  | nil => intro A; simp
  | cons x L ih => intro A; rw [List.foldl_cons, ih, push_len, List.length_cons]; omega
theorem srt_len (L : List Ent) {i : Nat} (h : i ≤ L.length) : (srt L i).length = i := by
  unfold srt
  rw [foldl_len, List.length_take, List.length_nil]
  omega
theorem sortE_len (L : List Ent) : (sortE L).length = L.length := by
  unfold sortE
  rw [foldl_len]
  simp
theorem srt_zero (L : List Ent) : srt L 0 = [] := rfl
theorem srt_all (L : List Ent) : srt L L.length = sortE L := by rw [srt, sortE, List.take_length]
theorem srt_succ {L : List Ent} {i : Nat} (h : i < L.length) : srt L (i + 1) = sink (srt L i ++ [L.getD i Ent.z]) i := by
  have e : L.take (i + 1) = L.take i ++ [L.getD i Ent.z] := by
    rw [List.take_succ_eq_append_getElem h]
    simp [List.getD, h]
  have hl := srt_len L (Nat.le_of_lt h)
  unfold srt at hl ⊢
  rw [e, List.foldl_append, List.foldl_cons, List.foldl_nil]
  show sink (_ ++ [L.getD i Ent.z]) (List.foldl push [] (List.take i L)).length = _
  rw [hl]
theorem getD_app_left {A : List Ent} (T : List Ent) {j : Nat} (h : j < A.length) : (A ++ T).getD j Ent.z = A.getD j Ent.z := by
  simp [List.getD, List.getElem?_append_left h]
theorem swp_app {A : List Ent} (T : List Ent) {j : Nat} (h : j < A.length) : swp (A ++ T) j = swp A j ++ T := by
  unfold swp
  rw [getD_app_left T h, getD_app_left T (show j - 1 < A.length by omega), List.set_append_left _ _ h, List.set_append_left _ _ (by rw [List.length_set]; omega)]
theorem sink_app (T : List Ent) (j : Nat) : ∀ A : List Ent, j < A.length → sink (A ++ T) j = sink A j ++ T := by
  induction j with
  | zero => intro A _; rfl
  | succ j ih =>
    intro A h
    unfold sink
    rw [getD_app_left T h, getD_app_left T (show j < A.length by omega), swp_app T h, ih _ (by rw [swp_len]; omega)]
    split <;> rfl
/-- The first i entries sorted, the others as they were. -/
def upTo (L : List Ent) (i : Nat) : List Ent := srt L i ++ L.drop i
theorem upTo_len (L : List Ent) {i : Nat} (h : i ≤ L.length) : (upTo L i).length = L.length := by
  unfold upTo
  rw [List.length_append, srt_len L h, List.length_drop]
  omega
theorem upTo_zero (L : List Ent) : upTo L 0 = L := by simp [upTo, srt]
theorem upTo_one (L : List Ent) : upTo L 1 = L := by
  cases L with
  | nil => rfl
  | cons x L => simp [upTo, srt, push, sink]
theorem upTo_all (L : List Ent) : upTo L L.length = sortE L := by simp [upTo, srt_all]
theorem upTo_succ {L : List Ent} {i : Nat} (h : i < L.length) : upTo L (i + 1) = sink (upTo L i) i := by
  have e : L.drop i = [L.getD i Ent.z] ++ L.drop (i + 1) := by
    rw [List.drop_eq_getElem_cons h]
    simp [List.getD, h]
  unfold upTo
  rw [srt_succ h, e, ← List.append_assoc, sink_app (L.drop (i + 1)) i (srt L i ++ [L.getD i Ent.z])]
  rw [List.length_append, srt_len L (Nat.le_of_lt h)]
  simp
theorem swp_perm {L : List Ent} {j : Nat} (h : j < L.length) (h0 : 0 < j) : (swp L j).Perm L := by
  obtain ⟨i, rfl⟩ : ∃ i, j = i + 1 := ⟨j - 1, by omega⟩
  unfold swp
  rw [Nat.add_sub_cancel]
  induction i generalizing L with
  | zero =>
    match L, h with
    | a :: b :: L, _ => exact List.Perm.swap _ _ _
  | succ i ih =>
    match L, h with
    | a :: L, h =>
      have := ih (L := L) (by simp at h; omega) (by omega)
      simpa using this
theorem sink_perm (j : Nat) : ∀ L : List Ent, j < L.length → (sink L j).Perm L := by
  induction j with
  | zero => intro L _; exact List.Perm.refl _
  | succ j ih =>
    intro L h
    unfold sink
    split
    · exact (ih _ (by rw [swp_len]; omega)).trans (swp_perm h (by omega))
    · exact List.Perm.refl _
theorem push_perm (A : List Ent) (x : Ent) : (push A x).Perm (A ++ [x]) := sink_perm _ _ (by simp)
theorem foldl_perm (L : List Ent) : ∀ A : List Ent, (L.foldl push A).Perm (A ++ L) := by
  induction L with
  | nil => intro A; simp
  | cons x L ih =>
    intro A
    refine (ih _).trans ?_
    refine ((push_perm A x).append_right L).trans ?_
    rw [List.append_assoc]
    exact List.Perm.refl _
theorem sortE_perm (L : List Ent) : (sortE L).Perm L := foldl_perm L []
theorem srt_perm (L : List Ent) (i : Nat) : (srt L i).Perm (L.take i) := foldl_perm _ []
theorem EOk.perm {L M : List Ent} (h : EOk L) (p : M.Perm L) : EOk M := fun x hx => h x (p.mem_iff.1 hx)
theorem EOk.drop {L : List Ent} (h : EOk L) (n : Nat) : EOk (L.drop n) := fun y hy => h y (List.mem_of_mem_drop hy)
theorem EOk.swp {L : List Ent} (h : EOk L) (j : Nat) : EOk (swp L j) := (h.set j (h.at_ _)).set _ (h.at_ _)
end Go.Proofs.Ytmmdnomfpfcjiaa
