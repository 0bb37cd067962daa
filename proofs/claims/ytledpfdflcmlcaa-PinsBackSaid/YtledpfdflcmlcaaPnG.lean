/- The place of a commit in a list of pins: what addition and removal do there; a store of a count. -/
import Derived.Test.YtledpfdflcmlcaaPnD
import Derived.Test.YtledpfdflcmlcaaPnV
namespace Go.Proofs.Ytledpfdflcmlcaa
open Go.RowKit
set_option linter.unusedVariables false
set_option linter.unusedSimpArgs false
theorem cellsPn_setN : ∀ {L : List Pn} {j : Nat} (n : Int), j < L.length → cellsPn (L.set j ⟨(L.getD j Pn.z).m, n⟩) = (cellsPn L).set (j * 2 + 1) (.int .i64 n)
  | x :: L, 0, n, h => rfl
  | x :: L, j + 1, n, h => by
    have ih := cellsPn_setN (L := L) (j := j) n (by simp at h; omega)
    have e : (x :: L).getD (j + 1) Pn.z = L.getD j Pn.z := by simp [List.getD]
    rw [e, List.set_cons_succ, cellsPn, ih, cellsPn, Pn.cs, show (j + 1) * 2 + 1 = j * 2 + 1 + 1 + 1 by omega]
    rfl
theorem OwnPn.storedN {B : Nat} {L : List Pn} {g cap : Nat} {w : World} (h : OwnPn B L (.slice (some ⟨g, 0, none⟩) L.length cap) w) {j : Nat} (hj : j < L.length) {c : Int} (hx : -9223372036854775808 ≤ c ∧ c ≤ 9223372036854775807) :
    OwnPn B (L.set j ⟨(L.getD j Pn.z).m, c⟩) (.slice (some ⟨g, 0, none⟩) L.length cap) (w.setCell ⟨g, j * 2 + 1, none⟩ (.int .i64 c)) := by
  obtain ⟨hy, ho⟩ := h
  refine ⟨fun x hm => ?_, ?_⟩
  · rcases List.mem_or_eq_of_mem_set hm with h | rfl
    · exact hy x h
    · exact ⟨(hy.at_ j).1, hx⟩
  · rw [List.length_set, cellsPn_setN c hj]
    exact (World.ownsRow.stored ho (j * 2 + 1) (.int .i64 c)).1
/-- The place k of the commit c in L. -/
def PlaceP (L : List Pn) (c : Int) (k : Nat) : Prop := k ≤ L.length ∧ (∀ i, i < k → (L.getD i Pn.z).m < c) ∧ (k < L.length → c ≤ (L.getD k Pn.z).m)
theorem PlaceP.left {L : List Pn} {c : Int} {k : Nat} (h : PlaceP L c k) : ∀ x ∈ L.take k, x.m < c := by
  intro x hx
  obtain ⟨j, hj, rfl⟩ := List.mem_iff_getElem.1 hx
  rw [List.length_take] at hj
  have := h.2.1 j (by omega)
  rw [List.getElem_take]
  simpa [List.getD, show j < L.length by omega] using this
theorem vd_drop : ∀ {L : List Pn} {k0 : Int} (k : Nat), Vd k0 L → k < L.length → Vd ((L.getD k Pn.z).m + 1) (L.drop (k + 1)) ∧ 1 ≤ (L.getD k Pn.z).n ∧ (L.getD k Pn.z).n ≤ 1024
  | p :: L, k0, 0, h, _ => ⟨h.2.2.2, h.2.1, h.2.2.1⟩
  | p :: L, k0, k + 1, h, hk => by
    have ih := vd_drop (L := L) k h.2.2.2 (by simp at hk; omega)
    have e : (p :: L).getD (k + 1) Pn.z = L.getD k Pn.z := by simp [List.getD]
    rw [e]
    exact ih
theorem PlaceP.split {L : List Pn} {k : Nat} (hk : k < L.length) : L = L.take k ++ (L.getD k Pn.z :: L.drop (k + 1)) := by
  rw [← pn_drop hk, List.take_append_drop]
theorem PlaceP.mem {L : List Pn} {k : Nat} {x : Pn} (hx : x ∈ L) (hk : k < L.length) : x ∈ L.take k ∨ x = L.getD k Pn.z ∨ x ∈ L.drop (k + 1) := by
  rw [PlaceP.split hk] at hx
  rcases List.mem_append.1 hx with h | h
  · exact .inl h
  · rcases List.mem_cons.1 h with h | h
    · exact .inr (.inl h)
    · exact .inr (.inr h)
theorem PlaceP.none {L : List Pn} {c : Int} {k : Nat} (h : PlaceP L c k) (hv : Vd 0 L) (hn : ¬ (k < L.length ∧ (L.getD k Pn.z).m = c)) : ∀ x ∈ L, x.m ≠ c := by
  intro x hx
  by_cases hk : k < L.length
  · have h1 := h.2.2 hk
    have h2 : c < (L.getD k Pn.z).m := by
      rcases Int.lt_or_eq_of_le h1 with h3 | h3
      · exact h3
      · exact absurd ⟨hk, h3.symm⟩ hn
    rcases PlaceP.mem hx hk with h3 | rfl | h3
    · have := h.left x h3
      omega
    · omega
    · have := ((vd_drop k hv hk).1).low x h3
      omega
  · rw [← List.take_of_length_le (Nat.le_of_not_lt hk)] at hx
    have := h.left x hx
    omega
theorem PlaceP.add_new {L : List Pn} {c : Int} {k : Nat} (h : PlaceP L c k) (hn : ¬ (k < L.length ∧ (L.getD k Pn.z).m = c)) : addP c L = L.take k ++ [⟨c, 1⟩] ++ L.drop k := by
  by_cases hk : k < L.length
  · have h1 := h.2.2 hk
    have h2 : c < (L.getD k Pn.z).m := by
      rcases Int.lt_or_eq_of_le h1 with h3 | h3
      · exact h3
      · exact absurd ⟨hk, h3.symm⟩ hn
    have e := addP_skip c (L.take k) (L.drop k) h.left
    rw [List.take_append_drop] at e
    rw [e, pn_drop hk]
    unfold addP
    rw [if_pos h2]
    simp
  · have e0 : k = L.length := by have := h.1; omega
    subst e0
    have e := addP_skip c L [] (fun x hx => h.left x (by rw [List.take_length]; exact hx))
    rw [List.append_nil] at e
    rw [e, List.take_length, List.drop_length]
    simp [addP]
theorem PlaceP.add_hit {L : List Pn} {c : Int} {k : Nat} (h : PlaceP L c k) (hk : k < L.length) (he : (L.getD k Pn.z).m = c) : addP c L = L.set k ⟨(L.getD k Pn.z).m, (L.getD k Pn.z).n + 1⟩ := by
  have e := addP_skip c (L.take k) (L.drop k) h.left
  rw [List.take_append_drop] at e
  rw [e, pn_drop hk]
  unfold addP
  rw [if_neg (by omega), if_pos he.symm, List.set_eq_take_append_cons_drop, if_pos hk]
theorem PlaceP.full_none {L : List Pn} {c : Int} (h : ∀ x ∈ L, x.m ≠ c) : fullP L c = false := by
  unfold fullP
  rw [List.any_eq_false]
  intro x hx
  have := h x hx
  simp [this]
theorem PlaceP.full_hit {L : List Pn} {c : Int} {k : Nat} (h : PlaceP L c k) (hv : Vd 0 L) (hk : k < L.length) (he : (L.getD k Pn.z).m = c) : fullP L c = decide ((L.getD k Pn.z).n = 1024) := by
  unfold fullP
  rw [Bool.eq_iff_iff, List.any_eq_true, decide_eq_true_eq]
  constructor
  · rintro ⟨x, hx, hc⟩
    simp only [Bool.and_eq_true, beq_iff_eq] at hc
    rcases PlaceP.mem hx hk with h3 | rfl | h3
    · have := h.left x h3
      omega
    · exact hc.2
    · have := ((vd_drop k hv hk).1).low x h3
      omega
  · intro hn
    exact ⟨L.getD k Pn.z, by simp [List.getD, hk], by simp only [Bool.and_eq_true, beq_iff_eq]; exact ⟨he, hn⟩⟩
theorem PlaceP.rem_none {L : List Pn} {c : Int} (h : ∀ x ∈ L, x.m ≠ c) : remF L c = false := by
  unfold remF
  rw [List.any_eq_false]
  intro x hx
  have := h x hx
  simp [this]
theorem PlaceP.rem_hit {L : List Pn} {c : Int} {k : Nat} (hk : k < L.length) (he : (L.getD k Pn.z).m = c) : remF L c = true := by
  unfold remF
  rw [List.any_eq_true]
  exact ⟨L.getD k Pn.z, by simp [List.getD, hk], by simpa using he⟩
theorem remP_app (c : Int) : ∀ A B : List Pn, remP c (A ++ B) = remP c A ++ remP c B
  | [], B => rfl
  | p :: A, B => by
    simp only [List.cons_append, remP, remP_app c A B]
    split <;> simp
theorem PlaceP.rem_at {L : List Pn} {c : Int} {k : Nat} (h : PlaceP L c k) (hv : Vd 0 L) (hk : k < L.length) (he : (L.getD k Pn.z).m = c) :
    remP c L = if (L.getD k Pn.z).n - 1 = 0 then L.take k ++ L.drop (k + 1) else L.set k ⟨(L.getD k Pn.z).m, (L.getD k Pn.z).n - 1⟩ := by
  have h1 : remP c (L.take k) = L.take k := remP_none (fun x hx => ⟨by have := h.left x hx; omega, (hv.low x (List.mem_of_mem_take hx)).2.1⟩)
  obtain ⟨hd, hn1, hn2⟩ := vd_drop k hv hk
  have h2 : remP c (L.drop (k + 1)) = L.drop (k + 1) := remP_none (fun x hx => ⟨by have := hd.low x hx; omega, (hd.low x hx).2.1⟩)
  have hdec : decP c (L.getD k Pn.z) = ⟨(L.getD k Pn.z).m, (L.getD k Pn.z).n - 1⟩ := by unfold decP; rw [if_pos he]
  have e := PlaceP.split hk
  conv => lhs; rw [e, remP_app, h1]
  rw [remP, hdec, h2, List.set_eq_take_append_cons_drop, if_pos hk]
  by_cases h0 : (L.getD k Pn.z).n - 1 = 0
  · rw [if_neg (by show ¬ (0 : Int) < (L.getD k Pn.z).n - 1; omega), if_pos h0]
  · rw [if_pos (by show (0 : Int) < (L.getD k Pn.z).n - 1; omega), if_neg h0]
end Go.Proofs.Ytledpfdflcmlcaa
