/- An insertion keeps what summaries know. No program. -/
import Derived.Test.YtcmekpdgikploaaSpc9
namespace Go.Proofs.Ytcmekpdgikploaa
open Go.RowKit
set_option linter.unusedVariables false
set_option linter.unusedSimpArgs false
theorem tS_sum {a b : Int} (h0 : 0 ≤ a) (h1 : 0 ≤ b) (h : a + b ≤ 1099511627776) : tS a b = a + b := by unfold tS satN nat0; split <;> omega
theorem tF_sum {a b : Int} (h0 : 0 ≤ a) (h1 : 0 ≤ b) (h : a + b ≤ 1099511627776) : tF a b = false := by unfold tF satF nat0; simp; omega
theorem itemE_zero {k : List Int} {x : Int} (h : itemE k x = 0) : keyB k = true ∧ 1 ≤ x ∧ x ≤ 4294967295 := by
  unfold itemE at h
  split at h
  · cases h
  · rename_i hk
    split at h
    · cases h
    · exact ⟨by simpa using hk, by omega, by omega⟩
theorem set_split {L : List Ent} {j : Nat} (h : j < L.length) (y : Ent) : L.set j y = L.take j ++ y :: L.drop (j + 1) := by
  rw [List.set_eq_take_append_cons_drop, if_pos h]
theorem self_split {L : List Ent} {j : Nat} (h : j < L.length) : L = L.take j ++ L[j] :: L.drop (j + 1) := by
  rw [← List.drop_eq_getElem_cons h, List.take_append_drop]
theorem sumC_set {L : List Ent} {j : Nat} (h : j < L.length) (y : Ent) : sumC (L.set j y) = sumC L - (L[j]).c + y.c := by
  have h1 : sumC L = sumC (L.take j) + ((L[j]).c + sumC (L.drop (j + 1))) := by
    conv => lhs; rw [self_split h]
    rw [sumC_app]
    rfl
  rw [set_split h, sumC_app, h1]
  simp only [sumC]
  omega
/-- Facts on a list of entries, in any order, that make a summary. -/
theorem Spc.make {S W : Int} {f : ByteArray → Int} {A : List Ent} (s0 : 1 ≤ S) (s1 : S ≤ 32) (w0 : 0 ≤ W) (w1 : W ≤ 1099511627776) (len : (A.length : Int) ≤ S) (key : Keyed A) (ent : ∀ x ∈ A, entE x = 0) (sum : sumC A ≤ W) (err : ∀ x ∈ A, x.e * S ≤ W) (lo : ∀ x ∈ A, x.c - x.e ≤ f x.k ∧ f x.k ≤ x.c)
    (un : ∀ k, hasK A k = false → f k ≤ 0 ∨ ((A.length : Int) = S ∧ ∀ x ∈ A, f k ≤ x.c)) (pos : ∀ k, 0 ≤ f k) : Spc S f W ⟨S, W, sortE A, false⟩ := by
  have p := sortE_perm A
  have m : ∀ {x}, x ∈ sortE A → x ∈ A := fun h => p.mem_iff.1 h
  refine ⟨rfl, s0, s1, rfl, w0, w1, rfl, by rw [sortE_len]; exact len, key.perm p, sortE_sorted key, fun x hx => ent x (m hx), by rw [sumC_perm p]; exact sum, fun x hx => err x (m hx), fun x hx => lo x (m hx), fun k hk => ?_, pos⟩
  have hk' : hasK A k = false := by
    cases h : hasK A k with
    | false => rfl
    | true =>
      obtain ⟨x, hx, he⟩ := (hasK_iff _ _).1 h
      rw [(hasK_iff _ _).2 ⟨x, p.symm.mem_iff.1 hx, he⟩] at hk
      cases hk
  refine leastI_ge (fun x hx => by have := entE_zero (ent x (m hx)); omega) s0 ?_
  rcases un k hk' with h | ⟨h1, h2⟩
  · exact .inl h
  · exact .inr ⟨by rw [sortE_len]; exact h1, fun x hx => h2 x (m hx)⟩
/-- The weight of one more item. -/
def addW (f : ByteArray → Int) (k : ByteArray) (x : Int) (k' : ByteArray) : Int := f k' + (if sameK k k' = true then x else 0)
theorem Spc.ins {S : Int} {f : ByteArray → Int} {W : Int} {c : TP} (h : Spc S f W c) {k : ByteArray} {x : Int} (hi : itemE (byt k) x = 0) (hw : W + x ≤ 1099511627776) : Spc S (addW f k x) (W + x) (insTop c k x) ∧ insE c k x = 0 := by
  have hv := h.valid
  obtain ⟨ik, i1, i2⟩ := itemE_zero hi
  have hE : insE c k x = 0 := by unfold insE; rw [if_neg (by rw [hv]; simp), hi]
  refine ⟨?_, hE⟩
  have hc0 := h.c0
  have w0 := h.w0
  have s0 := h.s0
  have hpos : ∀ k', 0 ≤ addW f k x k' := fun k' => by have := h.pos k'; unfold addW; split <;> omega
  have hT : tS c.T x = W + x := by rw [h.hT]; exact tS_sum w0 (by omega) hw
  have hTF : tF c.T x = false := by rw [h.hT]; exact tF_sum w0 (by omega) hw
  unfold insTop
  rw [if_neg (by rw [hv]; simp), if_neg (by rw [hi]; simp), hT, hTF, h.hS, h.hs]
  cases hk : hasK c.L k with
  | true =>
    have hF : insF S c.L k x = false ∧ ∃ j, ∃ hj : j < c.L.length, (c.L[j]).k = k ∧ insA S c.L k x = c.L.set j ⟨k, (c.L[j]).c + x, (c.L[j]).e⟩ := by
      rcases findI_cases c.L k with ⟨_, j, hj, e, hs⟩ | ⟨h', _⟩
      · have g : c.L.getD j Ent.z = c.L[j] := by simp [List.getD, hj]
        rw [g] at hs
        have hkj := (sameK_iff _ _).1 hs
        have hcW : (c.L[j]).c + x ≤ 1099511627776 := by have := sumC_mem hc0 (List.getElem_mem hj); have := h.sum; omega
        have hcj := hc0 _ (List.getElem_mem hj)
        refine ⟨?_, j, hj, hkj, ?_⟩
        · unfold insF
          rw [if_pos hk, e, Int.toNat_natCast, g]
          exact tF_sum hcj (by omega) hcW
        · unfold insA
          rw [if_pos hk, e, Int.toNat_natCast, g, tS_sum hcj (by omega) hcW, hkj]
      · rw [hk] at h'; cases h'
    obtain ⟨hF, j, hj, hkj, hA⟩ := hF
    rw [hF, hA]
    have hX := List.getElem_mem hj
    have heX := entE_zero (h.ent _ hX)
    have hcX := sumC_mem hc0 hX
    have hsum := h.sum
    have hlo := h.lo _ hX
    have herr := h.err _ hX
    have hmem : ∀ y ∈ c.L.set j ⟨k, (c.L[j]).c + x, (c.L[j]).e⟩, y = ⟨k, (c.L[j]).c + x, (c.L[j]).e⟩ ∨ (y ∈ c.L ∧ sameK k y.k = false) := fun y hy => by
      obtain ⟨i, hi, rfl⟩ := List.mem_iff_getElem.1 hy
      rw [List.length_set] at hi
      by_cases he : i = j
      · subst he; exact .inl (by simp)
      · refine .inr ?_
        rw [List.getElem_set_ne (Ne.symm he)]
        refine ⟨List.getElem_mem _, ?_⟩
        show sameK k (c.L[i]'hi).k = false
        rw [← hkj]
        cases hs : sameK (c.L[j]).k (c.L[i]).k with
        | false => rfl
        | true =>
          have := h.key.one.inj (i := j) (j := i) (k := (c.L[i]).k) hj hi (by simpa [List.getD, hj] using hs) (by simpa [List.getD, hi] using sameK_self _)
          omega
    have hkey : Keyed (c.L.set j ⟨k, (c.L[j]).c + x, (c.L[j]).e⟩) := by
      have h0 := h.key
      unfold Keyed at h0 ⊢
      rw [List.pairwise_iff_getElem] at h0 ⊢
      intro a b ha hb hab
      rw [List.length_set] at ha hb
      have := h0 a b ha hb hab
      have ek : ∀ i (hi : i < c.L.length), ((c.L.set j ⟨k, (c.L[j]).c + x, (c.L[j]).e⟩)[i]'(by rw [List.length_set]; exact hi)).k = (c.L[i]).k := fun i hi => by
        rw [List.getElem_set]
        split
        · rename_i e; subst e; exact hkj.symm
        · rfl
      rw [ek a ha, ek b hb]
      exact this
    have hhas : ∀ k', hasK (c.L.set j ⟨k, (c.L[j]).c + x, (c.L[j]).e⟩) k' = false → sameK k k' = false ∧ hasK c.L k' = false := fun k' hk' => by
      have hn := fun y hy => hasK_not hk' (x := y) hy
      have hs := hn ⟨k, (c.L[j]).c + x, (c.L[j]).e⟩ (List.mem_iff_getElem.2 ⟨j, by rw [List.length_set]; exact hj, by simp⟩)
      refine ⟨hs, ?_⟩
      cases hh : hasK c.L k' with
      | false => rfl
      | true =>
        obtain ⟨y, hy, he⟩ := (hasK_iff _ _).1 hh
        obtain ⟨i, hi, rfl⟩ := List.mem_iff_getElem.1 hy
        by_cases hij : i = j
        · subst hij
          rw [hkj] at he
          rw [he, sameK_self] at hs
          cases hs
        · have := hn (c.L[i]) (List.mem_iff_getElem.2 ⟨i, by rw [List.length_set]; exact hi, by rw [List.getElem_set_ne (Ne.symm hij)]⟩)
          rw [he, sameK_self] at this
          cases this
    refine Spc.make s0 h.s1 (by omega) hw (by rw [List.length_set]; exact h.len) hkey (fun y hy => ?_) ?_ (fun y hy => ?_) (fun y hy => ?_) (fun k' hk' => ?_) hpos
    · rcases hmem y hy with rfl | ⟨hy, _⟩
      · exact entE_of ik (by dsimp only; omega) (by dsimp only; omega) heX.2.2.2.1 (by dsimp only; omega)
      · exact h.ent y hy
    · rw [sumC_set hj]; dsimp only; omega
    · rcases hmem y hy with rfl | ⟨hy, _⟩
      · dsimp only; omega
      · have := h.err y hy; omega
    · rcases hmem y hy with rfl | ⟨hy, hn⟩
      · unfold addW
        rw [if_pos (sameK_self k)]
        rw [hkj] at hlo
        dsimp only
        omega
      · unfold addW
        rw [if_neg (by rw [hn]; simp)]
        have := h.lo y hy
        omega
    · obtain ⟨h1, h2⟩ := hhas k' hk'
      have hu := h.un k' h2
      unfold addW
      rw [if_neg (by rw [h1]; simp)]
      by_cases hl : (c.L.length : Int) = S
      · refine .inr ⟨by rw [List.length_set]; exact hl, fun y hy => ?_⟩
        rcases hmem y hy with rfl | ⟨hy, _⟩
        · have := leastI_le (S := S) h.srt hc0 hX; dsimp only; omega
        · have := leastI_le (S := S) h.srt hc0 hy; omega
      · rw [leastI_room hl] at hu
        exact .inl (by omega)
  | false =>
    have hl0 := leastI_pos (S := S) hc0
    have hlW : leastI S c.L ≤ W := by have := Int.mul_le_mul_of_nonneg_left s0 hl0; have := h.least; omega
    have hent : entOf k (leastI S c.L + x) (leastI S c.L) = ⟨k, leastI S c.L + x, leastI S c.L⟩ := by
      unfold entOf
      rw [show min (leastI S c.L) (leastI S c.L + x - 1) = leastI S c.L by omega]
    have hF : insF S c.L k x = false := by unfold insF; rw [if_neg (by rw [hk]; simp)]; exact tF_sum hl0 (by omega) (by omega)
    have hA : insA S c.L k x = c.L.take (min c.L.length (S - 1).toNat) ++ [⟨k, leastI S c.L + x, leastI S c.L⟩] := by
      unfold insA
      rw [if_neg (by rw [hk]; simp), tS_sum hl0 (by omega) (by omega), hent]
    rw [hF, hA]
    have hlen := h.len
    have hfk : f k ≤ leastI S c.L := h.un k hk
    have hfk0 := h.pos k
    have hleast := h.least
    generalize hm : min c.L.length (S - 1).toNat = m
    have hmem : ∀ y ∈ c.L.take m ++ [(⟨k, leastI S c.L + x, leastI S c.L⟩ : Ent)], y = ⟨k, leastI S c.L + x, leastI S c.L⟩ ∨ (y ∈ c.L ∧ sameK k y.k = false) := fun y hy => by
      rcases List.mem_append.1 hy with hy | hy
      · have := List.mem_of_mem_take hy
        exact .inr ⟨this, by rw [sameK_comm]; exact hasK_not hk this⟩
      · exact .inl (List.mem_singleton.1 hy)
    have hkey : Keyed (c.L.take m ++ [(⟨k, leastI S c.L + x, leastI S c.L⟩ : Ent)]) := by
      unfold Keyed
      rw [List.pairwise_append]
      refine ⟨List.Pairwise.sublist (List.take_sublist _ _) h.key, List.pairwise_singleton _ _, fun a ha b hb => ?_⟩
      rw [List.mem_singleton] at hb
      subst hb
      exact hasK_not hk (List.mem_of_mem_take ha)
    have hsum : sumC (c.L.take m) + leastI S c.L ≤ W := by
      have hs := h.sum
      by_cases hl : (c.L.length : Int) = S
      · have e : c.L = c.L.take m ++ [c.L[c.L.length - 1]] := by
          have := self_split (L := c.L) (j := c.L.length - 1) (by omega)
          rw [show m = c.L.length - 1 by omega]
          conv => lhs; rw [this]
          rw [List.drop_eq_nil_of_le (by omega)]
        have hc : sumC c.L = sumC (c.L.take m) + (c.L[c.L.length - 1]).c := by
          conv => lhs; rw [e]
          rw [sumC_app]
          simp only [sumC]
          omega
        have hle := leastI_le (S := S) h.srt hc0 (List.getElem_mem (l := c.L) (show c.L.length - 1 < c.L.length by omega))
        omega
      · rw [leastI_room hl, show m = c.L.length by omega, List.take_length]
        omega
    refine Spc.make s0 h.s1 (by omega) hw (by rw [List.length_append, List.length_take]; simp; omega) hkey (fun y hy => ?_) ?_ (fun y hy => ?_) (fun y hy => ?_) (fun k' hk' => ?_) hpos
    · rcases hmem y hy with rfl | ⟨hy, _⟩
      · exact entE_of ik (by dsimp only; omega) (by dsimp only; omega) hl0 (by dsimp only; omega)
      · exact h.ent y hy
    · rw [sumC_app]; simp only [sumC]; omega
    · rcases hmem y hy with rfl | ⟨hy, _⟩
      · dsimp only; omega
      · have := h.err y hy; omega
    · rcases hmem y hy with rfl | ⟨hy, hn⟩
      · unfold addW
        rw [if_pos (sameK_self k)]
        dsimp only
        omega
      · unfold addW
        rw [if_neg (by rw [hn]; simp)]
        have := h.lo y hy
        omega
    · rw [hasK_app] at hk'
      obtain ⟨h1, h2⟩ := Bool.or_eq_false_iff.1 hk'
      have h3 : sameK k k' = false := by simpa [hasK] using h2
      unfold addW
      rw [if_neg (by rw [h3]; simp)]
      by_cases hl : (c.L.length : Int) = S
      · have hfl : f k' ≤ leastI S c.L := by
          cases hh : hasK c.L k' with
          | false => exact h.un k' hh
          | true =>
            obtain ⟨y, hy, he⟩ := (hasK_iff _ _).1 hh
            obtain ⟨i, hi, rfl⟩ := List.mem_iff_getElem.1 hy
            by_cases him : i < m
            · have : hasK (c.L.take m) k' = true := (hasK_iff _ _).2 ⟨c.L[i], List.mem_take_iff_getElem.2 ⟨i, by omega, rfl⟩, he⟩
              rw [this] at h1; cases h1
            · have hlo := h.lo _ hy
              rw [he] at hlo
              have e : leastI S c.L = (c.L[i]).c := by
                unfold leastI
                rw [if_neg (by omega), show c.L.length - 1 = i by omega]
                simp [List.getD, hi]
              omega
        refine .inr ⟨by rw [List.length_append, List.length_take]; simp; omega, fun y hy => ?_⟩
        rcases hmem y hy with rfl | ⟨hy, _⟩
        · dsimp only; omega
        · have := leastI_le (S := S) h.srt hc0 hy; omega
      · rw [show m = c.L.length by omega, List.take_length] at h1
        have := h.un k' h1
        rw [leastI_room hl] at this
        exact .inl (by omega)
end Go.Proofs.Ytcmekpdgikploaa
