/- Valid directories: what Bind, Unbind and Rename keep. No program. -/
import Derived.Test.YtpehbfghajlgmaaGreatBgX
namespace Go.Proofs.YtpehbfghajlgmaaGreat
open Go.RowKit
set_option linter.unusedVariables false
set_option linter.unusedSimpArgs false
/-- A binding that is right by itself. -/
def OneB (x : Bg) : Prop := nameB (byt x.n) = true ∧ 1 ≤ x.r ∧ 1 ≤ x.k ∧ 0 ≤ x.s ∧ (x.s = 0 ∨ x.k < x.s)
/-- a may stand before b. -/
def OrdB (a b : Bg) : Prop := lessK a.n b.n = true ∨ (a.n = b.n ∧ a.k < b.k ∧ a.s ≠ 0 ∧ a.s ≤ b.k)
def ApartB (a b : Bg) : Prop := dupB b a = false
def VldB (L : List Bg) : Prop := (∀ x ∈ L, OneB x) ∧ L.Pairwise OrdB ∧ L.Pairwise ApartB
theorem OrdB.trans {a b c : Bg} (h : OrdB a b) (k : OrdB b c) (hb : OneB b) : OrdB a c := by
  rcases h with h | ⟨h1, h2, h3, h4⟩
  · rcases k with k | ⟨k1, -⟩
    · exact .inl (lessK_trans h k)
    · exact .inl (by rw [← k1]; exact h)
  · rcases k with k | ⟨k1, k2, k3, k4⟩
    · exact .inl (by rw [h1]; exact k)
    · exact .inr ⟨h1.trans k1, by omega, h3, by omega⟩
theorem getD_mem {L : List Bg} {i : Nat} (h : i < L.length) : L.getD i Bg.z ∈ L := by simp [List.getD, h]
theorem vld_of {L : List Bg} (h : valB L = 0) : VldB L := by
  obtain ⟨h1, h2⟩ := valB_of h
  have hone : ∀ i, i < L.length → OneB (L.getD i Bg.z) ∧ (0 < i → OrdB (L.getD (i - 1) Bg.z) (L.getD i Bg.z)) := by
    intro i hi
    have he := h1 i hi
    unfold errB at he
    split at he
    · omega
    · rename_i g1
      split at he
      · omega
      · rename_i g2
        split at he
        · omega
        · rename_i g3
          split at he
          · omega
          · rename_i g4
            refine ⟨⟨by simpa using g1, by omega, by omega, by omega, ?_⟩, fun h0 => ?_⟩
            · by_cases hs : (L.getD i Bg.z).s = 0
              · exact .inl hs
              · right
                have := fun h => g3 ⟨hs, h⟩
                omega
            · have g5 := fun h => g4 ⟨h0, .inl h⟩
              have g6 := fun h => g4 ⟨h0, .inr h⟩
              rcases lessK_tri (L.getD (i - 1) Bg.z).n (L.getD i Bg.z).n with h | h | h
              · exact .inl h
              · have g7 : ¬ (L.getD i Bg.z).k ≤ (L.getD (i - 1) Bg.z).k := fun h' => g6 ⟨h, .inl h'⟩
                have g8 : ¬ (L.getD (i - 1) Bg.z).s = 0 := fun h' => g6 ⟨h, .inr (.inl h')⟩
                have g9 : ¬ (L.getD i Bg.z).k < (L.getD (i - 1) Bg.z).s := fun h' => g6 ⟨h, .inr (.inr h')⟩
                exact .inr ⟨h, by omega, g8, by omega⟩
              · exact absurd h g5
  have hlt : ∀ j i, i < j → j < L.length → OrdB (L.getD i Bg.z) (L.getD j Bg.z) := by
    intro j
    induction j with
    | zero => intro i hi; omega
    | succ j ih =>
      intro i hi hj
      have h3 := (hone (j + 1) hj).2 (by omega)
      rw [Nat.add_sub_cancel] at h3
      rcases Nat.lt_or_ge i j with h' | h'
      · exact (ih i h' (by omega)).trans h3 (hone j (by omega)).1
      · obtain rfl : i = j := by omega
        exact h3
  refine ⟨fun x hx => ?_, ?_, ?_⟩
  · obtain ⟨i, hi, rfl⟩ := List.mem_iff_getElem.1 hx
    have := (hone i hi).1
    simpa [List.getD, hi] using this
  · rw [List.pairwise_iff_getElem]
    intro i j hi hj hij
    have := hlt j i hij hj
    simpa [List.getD, hi, hj] using this
  · rw [List.pairwise_iff_getElem]
    intro i j hi hj hij
    cases hd : dupB L[j] L[i] with
    | false => exact hd
    | true => exact absurd ⟨j, i, hij, hj, by simpa [List.getD, hi, hj] using hd⟩ h2
theorem vld_ok {L : List Bg} (h : VldB L) : valB L = 0 := by
  obtain ⟨h1, h2, h3⟩ := h
  rw [List.pairwise_iff_getElem] at h2 h3
  refine valB_ok (fun i hi => ?_) ?_
  · obtain ⟨a1, a2, a3, a4, a5⟩ := h1 _ (getD_mem hi)
    unfold errB
    rw [if_neg (by rw [a1]; decide), if_neg (by omega), if_neg (by omega), if_neg]
    rintro ⟨h0, hh⟩
    have ho := h2 (i - 1) i (by omega) hi (by omega)
    have e1 : L.getD (i - 1) Bg.z = L[i - 1]'(by omega) := by simp [List.getD, show i - 1 < L.length by omega]
    have e2 : L.getD i Bg.z = L[i] := by simp [List.getD, hi]
    rw [← e1, ← e2] at ho
    rcases ho with ho | ⟨o1, o2, o3, o4⟩
    · rcases hh with hh | hh
      · rw [lessK_asym ho] at hh
        cases hh
      · rw [hh.1, lessK_irr] at ho
        cases ho
    · rcases hh with hh | ⟨-, hh⟩
      · rw [o1, lessK_irr] at hh
        cases hh
      · rcases hh with hh | hh | hh
        · omega
        · exact o3 hh
        · omega
  · rintro ⟨i, k, hk, hi, hd⟩
    have := h3 k i (by omega) hi hk
    have e1 : L.getD k Bg.z = L[k]'(by omega) := by simp [List.getD, show k < L.length by omega]
    have e2 : L.getD i Bg.z = L[i] := by simp [List.getD, hi]
    rw [e1, e2] at hd
    unfold ApartB at this
    rw [this] at hd
    cases hd
/-- Putting a new open binding into a valid directory. -/
theorem put_vld {L R : List Bg} {nm : ByteArray} {ob c : Int} (h : VldB L) (hc : ∀ y ∈ L, y.k ≤ c ∧ y.s ≤ c) (hn : nameB (byt nm) = true) (ho : 1 ≤ ob) (hc1 : 1 ≤ c) (hb : ∀ y ∈ L, y.s = 0 → y.n ≠ nm ∧ y.r ≠ ob) (hp : PutB L ⟨nm, ob, c, 0⟩ R) : VldB R := by
  obtain ⟨q, ⟨hq, hp1, hp2⟩, rfl⟩ := hp
  obtain ⟨h1, h2, h3⟩ := h
  have hx : OneB ⟨nm, ob, c, 0⟩ := ⟨hn, ho, hc1, Int.le_refl _, .inl rfl⟩
  have hap : ∀ y ∈ L, dupB ⟨nm, ob, c, 0⟩ y = false ∧ dupB y ⟨nm, ob, c, 0⟩ = false := by
    intro y hy
    obtain ⟨-, -, -, -, ys⟩ := h1 y hy
    have hyc := hc y hy
    have hbb := hb y hy
    by_cases hr : ob = y.r
    · have hs : y.s ≠ 0 := fun e => (hbb e).2 hr.symm
      have e1 : hldB y.k y.s c = false := by
        simp [hldB]
        intro _
        exact ⟨hyc.2, hs⟩
      have e2 : hldB c 0 y.k = false := by
        simp [hldB]
        omega
      constructor
      · simp [dupB, e1, e2]
      · simp [dupB, e1, e2]
    · constructor
      · simp [dupB, hr]
      · have hr' : ¬ y.r = ob := fun e => hr e.symm
        simp [dupB, hr']
  have hafter : ∀ b ∈ L.drop q, OrdB ⟨nm, ob, c, 0⟩ b := by
    intro b hb'
    obtain ⟨j, hj, rfl⟩ := List.mem_iff_getElem.1 hb'
    rw [List.length_drop] at hj
    have hjl : q + j < L.length := by omega
    have hbf := hp1 (q + j) (by omega) hjl
    have e : (L.drop q)[j] = L.getD (q + j) Bg.z := by simp [List.getD, hjl]
    rw [e]
    have := hc _ (getD_mem hjl)
    unfold befB at hbf
    simp only [Bool.or_eq_true, Bool.and_eq_true, decide_eq_true_eq] at hbf
    rcases hbf with hbf | ⟨-, hbf⟩
    · exact .inl hbf
    · omega
  have hbefore : ∀ a ∈ L.take q, OrdB a ⟨nm, ob, c, 0⟩ := by
    intro a ha
    obtain ⟨j, hj, rfl⟩ := List.mem_iff_getElem.1 ha
    rw [List.length_take] at hj
    have hjl : j < L.length := by omega
    have hq0 : 0 < q := by omega
    have hbf := hp2 hq0
    have e : (L.take q)[j] = L.getD j Bg.z := by simp [List.getD, hjl]
    rw [e]
    have hle : lessK (L.getD j Bg.z).n nm = true ∨ (L.getD j Bg.z).n = nm := by
      unfold befB at hbf
      simp only [Bool.or_eq_false_iff] at hbf
      have hl : lessK (L.getD (q - 1) Bg.z).n nm = true ∨ (L.getD (q - 1) Bg.z).n = nm := by
        rcases lessK_tri nm (L.getD (q - 1) Bg.z).n with h | h | h
        · have h' : lessK nm (L.getD (q - 1) Bg.z).n = false := hbf.1
          rw [h] at h'
          cases h'
        · exact .inr h.symm
        · exact .inl h
      by_cases hjq : j = q - 1
      · rw [hjq]
        exact hl
      · rw [List.pairwise_iff_getElem] at h2
        have ho' := h2 j (q - 1) hjl (by omega) (by omega)
        have e1 : L[j] = L.getD j Bg.z := by simp [List.getD, hjl]
        have e2 : L[q - 1]'(by omega) = L.getD (q - 1) Bg.z := by simp [List.getD, show q - 1 < L.length by omega]
        rw [e1, e2] at ho'
        rcases ho' with ho' | ⟨ho', -⟩
        · rcases hl with hl | hl
          · exact .inl (lessK_trans ho' hl)
          · exact .inl (by rw [← hl]; exact ho')
        · rw [ho']
          exact hl
    rcases hle with hle | hle
    · exact .inl hle
    · have hm := getD_mem hjl
      have hs : (L.getD j Bg.z).s ≠ 0 := fun e => (hb _ hm e).1 hle
      obtain ⟨-, -, -, -, ys⟩ := h1 _ hm
      have hyc := hc _ hm
      refine .inr ⟨hle, ?_, hs, hyc.2⟩
      show (L.getD j Bg.z).k < c
      omega
  refine ⟨fun y hy => ?_, ?_, ?_⟩
  · rcases List.mem_append.1 hy with hy | hy
    · exact h1 y (List.mem_of_mem_take hy)
    · rcases List.mem_cons.1 hy with rfl | hy
      · exact hx
      · exact h1 y (List.mem_of_mem_drop hy)
  · rw [List.pairwise_append, List.pairwise_cons]
    refine ⟨h2.sublist (List.take_sublist _ _), ⟨hafter, h2.sublist (List.drop_sublist _ _)⟩, fun a ha b hb' => ?_⟩
    rcases List.mem_cons.1 hb' with rfl | hb'
    · exact hbefore a ha
    · have hd : (L.take q ++ L.drop q).Pairwise OrdB := by rw [List.take_append_drop]; exact h2
      rw [List.pairwise_append] at hd
      exact hd.2.2 a ha b hb'
  · rw [List.pairwise_append, List.pairwise_cons]
    refine ⟨h3.sublist (List.take_sublist _ _), ⟨fun b hb' => (hap b (List.mem_of_mem_drop hb')).2, h3.sublist (List.drop_sublist _ _)⟩, fun a ha b hb' => ?_⟩
    rcases List.mem_cons.1 hb' with rfl | hb'
    · exact (hap a (List.mem_of_mem_take ha)).1
    · have hd : (L.take q ++ L.drop q).Pairwise ApartB := by rw [List.take_append_drop]; exact h3
      rw [List.pairwise_append] at hd
      exact hd.2.2 a ha b hb'
end Go.Proofs.YtpehbfghajlgmaaGreat
