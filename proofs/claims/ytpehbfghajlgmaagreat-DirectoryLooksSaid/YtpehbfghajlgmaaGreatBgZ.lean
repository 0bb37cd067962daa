/- What Unbind and Rename keep of a valid directory; what made keeps. No program. -/
import Derived.Test.YtpehbfghajlgmaaGreatBgY
import Derived.Test.YtpehbfghajlgmaaGreatBgK
namespace Go.Proofs.YtpehbfghajlgmaaGreat
open Go.RowKit
set_option linter.unusedVariables false
set_option linter.unusedSimpArgs false
theorem opn_at {L : List Bg} {nm : ByteArray} {i : Nat} (h : opnB L nm = some i) : (L.getD i Bg.z).n = nm ∧ (L.getD i Bg.z).s = 0 := by
  obtain ⟨hi, h1, -⟩ := List.findIdx?_eq_some_iff_getElem.1 h
  have e : L.getD i Bg.z = L[i] := by simp [List.getD, hi]
  rw [e]
  simpa using h1
theorem opn_no {L : List Bg} {nm : ByteArray} (h : opnB L nm = none) : ∀ y ∈ L, y.s = 0 → y.n ≠ nm := by
  intro y hy hs hn
  have := List.findIdx?_eq_none_iff.1 h y hy
  simp [hs, hn] at this
theorem hld_end {f c y : Int} (h : hldB f c y = true) : hldB f 0 y = true := by
  simp [hldB] at h ⊢
  exact h.1
theorem set_at {L : List Bg} {i j : Nat} {x : Bg} (hj : j < (L.set i x).length) : (j = i ∧ (L.set i x)[j] = x) ∨ (j ≠ i ∧ ∃ h : j < L.length, (L.set i x)[j] = L[j]) := by
  rw [List.length_set] at hj
  by_cases e : j = i
  · subst e
    exact .inl ⟨rfl, by simp⟩
  · exact .inr ⟨e, hj, by rw [List.getElem_set_ne (Ne.symm e)]⟩
theorem dup_end {y a : Bg} {c : Int} (hs : y.s = 0) : (dupB y a = false → dupB ⟨y.n, y.r, y.k, c⟩ a = false) ∧ (dupB a y = false → dupB a ⟨y.n, y.r, y.k, c⟩ = false) := by
  constructor
  · intro h
    cases hd : dupB ⟨y.n, y.r, y.k, c⟩ a with
    | false => rfl
    | true =>
      unfold dupB at hd h
      simp only [Bool.and_eq_true, Bool.or_eq_true] at hd
      rw [hs] at h
      have : (y.r == a.r && (hldB a.k a.s y.k || hldB y.k 0 a.k)) = true := by
        rcases hd with ⟨h1, h2 | h2⟩
        · simp [h1, h2]
        · simp [h1, hld_end h2]
      rw [this] at h
      cases h
  · intro h
    cases hd : dupB a ⟨y.n, y.r, y.k, c⟩ with
    | false => rfl
    | true =>
      unfold dupB at hd h
      simp only [Bool.and_eq_true, Bool.or_eq_true] at hd
      rw [hs] at h
      have : (a.r == y.r && (hldB y.k 0 a.k || hldB a.k a.s y.k)) = true := by
        rcases hd with ⟨h1, h2 | h2⟩
        · simp [h1, hld_end h2]
        · simp [h1, h2]
      rw [this] at h
      cases h
theorem end_vld {L : List Bg} {i : Nat} {c : Int} (h : VldB L) (hi : i < L.length) (hs : (L.getD i Bg.z).s = 0) (hk : (L.getD i Bg.z).k < c) : VldB (L.set i ⟨(L.getD i Bg.z).n, (L.getD i Bg.z).r, (L.getD i Bg.z).k, c⟩) := by
  obtain ⟨h1, h2, h3⟩ := h
  have e : L.getD i Bg.z = L[i] := by simp [List.getD, hi]
  rw [e] at hs hk ⊢
  have hy := h1 _ (List.getElem_mem hi)
  generalize hY : L[i] = y at *
  rw [List.pairwise_iff_getElem] at h2 h3
  refine ⟨fun x hx => ?_, ?_, ?_⟩
  · rcases List.mem_or_eq_of_mem_set hx with hx | rfl
    · exact h1 x hx
    · obtain ⟨a1, a2, a3, a4, a5⟩ := hy
      exact ⟨a1, a2, a3, by show 0 ≤ c; omega, .inr hk⟩
  · rw [List.pairwise_iff_getElem]
    intro a b ha hb hab
    rcases set_at ha with ⟨e1, g1⟩ | ⟨e1, l1, g1⟩
    · rcases set_at hb with ⟨e2, g2⟩ | ⟨e2, l2, g2⟩
      · omega
      · rw [g1, g2]
        have := h2 a b (by omega) l2 hab
        subst e1
        rw [hY] at this
        rcases this with this | ⟨-, -, t3, -⟩
        · exact .inl this
        · exact absurd hs t3
    · rcases set_at hb with ⟨e2, g2⟩ | ⟨e2, l2, g2⟩
      · rw [g1, g2]
        have := h2 a b l1 (by omega) hab
        subst e2
        rw [hY] at this
        exact this
      · rw [g1, g2]
        exact h2 a b l1 l2 hab
  · rw [List.pairwise_iff_getElem]
    intro a b ha hb hab
    rcases set_at ha with ⟨e1, g1⟩ | ⟨e1, l1, g1⟩
    · rcases set_at hb with ⟨e2, g2⟩ | ⟨e2, l2, g2⟩
      · omega
      · rw [g1, g2]
        have := h3 a b (by omega) l2 hab
        subst e1
        rw [hY] at this
        exact (dup_end hs).2 this
    · rcases set_at hb with ⟨e2, g2⟩ | ⟨e2, l2, g2⟩
      · rw [g1, g2]
        have := h3 a b l1 (by omega) hab
        subst e2
        rw [hY] at this
        exact (dup_end hs).1 this
      · rw [g1, g2]
        exact h3 a b l1 l2 hab
theorem late_no {L : List Bg} {c : Int} (h : lateB L c = false) : ∀ y ∈ L, y.k ≤ c ∧ y.s ≤ c := by
  intro y hy
  unfold lateB at h
  rw [List.any_eq_false] at h
  have := h y hy
  simp at this
  exact this
theorem busy_no {L : List Bg} {nm : ByteArray} {ob : Int} (h : busyB L nm ob = false) : ∀ y ∈ L, y.s = 0 → y.n ≠ nm ∧ y.r ≠ ob := by
  intro y hy hs
  unfold busyB at h
  rw [List.any_eq_false] at h
  have := h y hy
  simp [hs] at this
  exact this
theorem mov_vld {L R : List Bg} {nm tn : ByteArray} {c : Int} (h : VldB L) (hc : ∀ y ∈ L, y.k ≤ c ∧ y.s ≤ c) (hn : nameB (byt tn) = true) {i : Nat} (ho : opnB L nm = some i) (ht : opnB L tn = none) (hk : (L.getD i Bg.z).k < c) (hp : PutB (L.set i ⟨(L.getD i Bg.z).n, (L.getD i Bg.z).r, (L.getD i Bg.z).k, c⟩) ⟨tn, (L.getD i Bg.z).r, c, 0⟩ R) : VldB R := by
  have hi := opn_lt ho
  obtain ⟨-, hs⟩ := opn_at ho
  have hv := end_vld h hi hs hk
  have hone := h.1 _ (getD_mem hi)
  refine put_vld hv (fun y hy => ?_) hn hone.2.1 (by have := hone.2.2.1; omega) (fun y hy hys => ?_) hp
  · rcases List.mem_or_eq_of_mem_set hy with hy | rfl
    · exact hc y hy
    · exact ⟨by show (L.getD i Bg.z).k ≤ c; omega, Int.le_refl c⟩
  · obtain ⟨j, hj, rfl⟩ := List.mem_iff_getElem.1 hy
    rcases set_at hj with ⟨e1, g1⟩ | ⟨e1, l1, g1⟩
    · rw [g1] at hys
      have : c = 0 := hys
      have := hone.2.2.1
      omega
    · rw [g1] at hys ⊢
      refine ⟨opn_no ht _ (List.getElem_mem l1) hys, fun hr => ?_⟩
      have e : L.getD i Bg.z = L[i] := by simp [List.getD, hi]
      rw [e] at hs hr
      have h3 := h.2.2
      rw [List.pairwise_iff_getElem] at h3
      rcases Nat.lt_or_ge i j with h' | h'
      · have := h3 i j hi l1 h'
        unfold ApartB dupB at this
        rw [hs, hys, hr] at this
        simp [hldB] at this
        omega
      · have := h3 j i l1 hi (by omega)
        unfold ApartB dupB at this
        rw [hs, hys, hr] at this
        simp [hldB] at this
        omega
/-- What made keeps: the directory is valid, its commits lie below the next one, its objects below the next object. -/
def KeptB (L : List Bg) (c o : Int) : Prop := VldB L ∧ (∀ y ∈ L, y.k < c ∧ y.s < c ∧ y.r < o) ∧ 1 ≤ c ∧ 1 ≤ o
end Go.Proofs.YtpehbfghajlgmaaGreat
