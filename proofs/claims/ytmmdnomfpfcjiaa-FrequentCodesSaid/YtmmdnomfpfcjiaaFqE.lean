/- What an insertion and a merge come to. No program. -/
import Derived.Test.YtmmdnomfpfcjiaaFqP
namespace Go.Proofs.Ytmmdnomfpfcjiaa
open Go.RowKit
set_option linter.unusedVariables false
set_option linter.unusedSimpArgs false
theorem AscK.tail {x : Ent} {L : List Ent} (h : AscK (x :: L)) : AscK L := (List.pairwise_cons.1 h).2
theorem AscK.head {x : Ent} {L : List Ent} (h : AscK (x :: L)) : ∀ y ∈ L, lessK x.k y.k = true := (List.pairwise_cons.1 h).1
theorem AscK.one (x : Ent) : AscK [x] := List.pairwise_singleton _ _
theorem ValQ.asc {S T K : Int} {L : List Ent} (h : ValQ S T K L) : AscK L := by
  have h1 := h.ord
  clear h
  induction L with
  | nil => exact List.Pairwise.nil
  | cons x L ih =>
    have hL := ih (fun i hi => by have := h1 (i + 1) (by simp; omega); simpa using this)
    refine List.pairwise_cons.2 ⟨?_, hL⟩
    cases L with
    | nil => intro y hy; cases hy
    | cons z L =>
      have h2 : lessK x.k z.k = true := by have := h1 0 (by simp); simpa using this
      intro y hy
      rcases List.mem_cons.1 hy with rfl | hy
      · exact h2
      · exact lessK_trans h2 (hL.head y hy)
theorem unL_first {y : Ent} {L M : List Ent} (h : ∀ m ∈ M, lessK y.k m.k = true) : unL (y :: L) M = y :: unL L M ∧ unF (y :: L) M = unF L M := by
  cases M with
  | nil => exact ⟨by rw [unL_nil_right, unL_nil_right], by rw [unF_nil_right, unF_nil_right]⟩
  | cons m M =>
    have := h m (by simp)
    exact ⟨by rw [unL_cons, if_pos this], by rw [unF_cons, if_pos this]⟩
theorem unL_keys : ∀ {L M : List Ent} {z : Ent}, z ∈ unL L M → (∃ x ∈ L, x.k = z.k) ∨ ∃ y ∈ M, y.k = z.k
  | [], M, z, h => by rw [unL_nil_left] at h; exact .inr ⟨z, h, rfl⟩
  | x :: L, [], z, h => by rw [unL_nil_right] at h; exact .inl ⟨z, h, rfl⟩
  | x :: L, y :: M, z, h => by
    rw [unL_cons] at h
    by_cases h1 : lessK x.k y.k = true
    · rw [if_pos h1] at h
      rcases List.mem_cons.1 h with rfl | h
      · exact .inl ⟨z, by simp, rfl⟩
      · rcases unL_keys h with ⟨a, ha, e⟩ | ⟨a, ha, e⟩
        · exact .inl ⟨a, by simp [ha], e⟩
        · exact .inr ⟨a, ha, e⟩
    · rw [if_neg h1] at h
      by_cases h2 : lessK y.k x.k = true
      · rw [if_pos h2] at h
        rcases List.mem_cons.1 h with rfl | h
        · exact .inr ⟨z, by simp, rfl⟩
        · rcases unL_keys h with ⟨a, ha, e⟩ | ⟨a, ha, e⟩
          · exact .inl ⟨a, ha, e⟩
          · exact .inr ⟨a, by simp [ha], e⟩
      · rw [if_neg h2] at h
        rcases List.mem_cons.1 h with rfl | h
        · exact .inl ⟨x, by simp, rfl⟩
        · rcases unL_keys h with ⟨a, ha, e⟩ | ⟨a, ha, e⟩
          · exact .inl ⟨a, by simp [ha], e⟩
          · exact .inr ⟨a, by simp [ha], e⟩
termination_by L M => L.length + M.length
theorem eq_of_not {a b : ByteArray} (h : ¬ lessK a b = true) (k : ¬ lessK b a = true) : a = b := by
  rcases lessK_tri a b with h1 | h1 | h1
  · exact absurd h1 h
  · exact h1
  · exact absurd h1 k
theorem unL_asc : ∀ {L M : List Ent}, AscK L → AscK M → AscK (unL L M)
  | [], M, _, hm => by rw [unL_nil_left]; exact hm
  | x :: L, [], hl, _ => by rw [unL_nil_right]; exact hl
  | x :: L, y :: M, hl, hm => by
    rw [unL_cons]
    by_cases h1 : lessK x.k y.k = true
    · rw [if_pos h1]
      refine List.pairwise_cons.2 ⟨fun z hz => ?_, unL_asc hl.tail hm⟩
      rcases unL_keys hz with ⟨a, ha, e⟩ | ⟨a, ha, e⟩
      · rw [← e]; exact hl.head a ha
      · rw [← e]
        rcases List.mem_cons.1 ha with rfl | ha
        · exact h1
        · exact lessK_trans h1 (hm.head a ha)
    · rw [if_neg h1]
      by_cases h2 : lessK y.k x.k = true
      · rw [if_pos h2]
        refine List.pairwise_cons.2 ⟨fun z hz => ?_, unL_asc hl hm.tail⟩
        rcases unL_keys hz with ⟨a, ha, e⟩ | ⟨a, ha, e⟩
        · rw [← e]
          rcases List.mem_cons.1 ha with rfl | ha
          · exact h2
          · exact lessK_trans h2 (hl.head a ha)
        · rw [← e]; exact hm.head a ha
      · rw [if_neg h2]
        have he := eq_of_not h1 h2
        refine List.pairwise_cons.2 ⟨fun z hz => ?_, unL_asc hl.tail hm.tail⟩
        rcases unL_keys hz with ⟨a, ha, e⟩ | ⟨a, ha, e⟩
        · rw [← e]; exact hl.head a ha
        · rw [← e]
          show lessK x.k a.k = true
          rw [he]
          exact hm.head a ha
termination_by L M => L.length + M.length
/-- A merge is an insertion of the first entry, and a merge with the rest. -/
theorem unL_step {y : Ent} {M : List Ent} (hm : AscK (y :: M)) : ∀ {L : List Ent}, AscK L → unL L (y :: M) = unL (unL L [y]) M ∧ unF L (y :: M) = (unF L [y] || unF (unL L [y]) M)
  | [], _ => by
    rw [unL_nil_left, unL_nil_left, unF_nil_left, unF_nil_left]
    obtain ⟨h1, h2⟩ := unL_first (L := []) hm.head
    rw [h1, h2, unL_nil_left, unF_nil_left]
    exact ⟨rfl, rfl⟩
  | x :: L, hl => by
    rw [unL_cons, unL_cons, unF_cons, unF_cons]
    by_cases h1 : lessK x.k y.k = true
    · rw [if_pos h1, if_pos h1, if_pos h1, if_pos h1]
      obtain ⟨i1, i2⟩ := unL_step hm hl.tail
      obtain ⟨f1, f2⟩ := unL_first (y := x) (L := unL L [y]) (M := M) (fun m h => lessK_trans h1 (hm.head m h))
      rw [f1, f2, i1, i2]
      exact ⟨rfl, rfl⟩
    · rw [if_neg h1, if_neg h1, if_neg h1, if_neg h1]
      by_cases h2 : lessK y.k x.k = true
      · rw [if_pos h2, if_pos h2, if_pos h2, if_pos h2]
        obtain ⟨f1, f2⟩ := unL_first (y := y) (L := x :: L) (M := M) hm.head
        rw [unL_nil_right, unF_nil_right, f1, f2]
        exact ⟨rfl, rfl⟩
      · rw [if_neg h2, if_neg h2, if_neg h2, if_neg h2]
        have he := eq_of_not h1 h2
        obtain ⟨f1, f2⟩ := unL_first (y := addE x y) (L := L) (M := M) (fun m h => by show lessK x.k m.k = true; rw [he]; exact hm.head m h)
        rw [unL_nil_right, unF_nil_right, f1, f2, Bool.or_false]
        exact ⟨rfl, rfl⟩
theorem hasK_cons (x : Ent) (L : List Ent) (k : ByteArray) : hasK (x :: L) k = (sameK x.k k || hasK L k) := by simp [hasK]
/-- An entry whose key there is. -/
theorem unL_has {y : Ent} : ∀ {L : List Ent}, AscK L → ∀ {j : Nat}, j < L.length → sameK (L.getD j Ent.z).k y.k = true → unL L [y] = L.set j (addE (L.getD j Ent.z) y) ∧ unF L [y] = tF (L.getD j Ent.z).c y.c
  | [], _, j, h, _ => by simp at h
  | x :: L, hl, j, hj, hs => by
    rw [unL_cons, unF_cons]
    cases j with
    | zero =>
      have he : x.k = y.k := (sameK_iff _ _).1 hs
      have h1 : lessK x.k y.k = false := by rw [he]; exact lessK_irr _
      have h2 : lessK y.k x.k = false := by rw [he]; exact lessK_irr _
      rw [h1, h2, if_neg (by simp), if_neg (by simp), if_neg (by simp), if_neg (by simp), unL_nil_right, unF_nil_right, Bool.or_false]
      exact ⟨rfl, rfl⟩
    | succ j =>
      have hj' : j < L.length := by simpa using hj
      have e : (x :: L).getD (j + 1) Ent.z = L.getD j Ent.z := by simp [List.getD]
      rw [e] at hs ⊢
      have hm : L.getD j Ent.z ∈ L := by
        rw [show L.getD j Ent.z = L[j] by simp [List.getD, hj']]
        exact List.getElem_mem hj'
      have h1 : lessK x.k y.k = true := by rw [← (sameK_iff _ _).1 hs]; exact hl.head _ hm
      rw [if_pos h1, if_pos h1]
      obtain ⟨i1, i2⟩ := unL_has hl.tail hj' hs
      rw [i1, i2]
      exact ⟨rfl, rfl⟩
/-- An entry whose key there is not. -/
theorem unL_not {y : Ent} : ∀ {L : List Ent}, hasK L y.k = false → unL L [y] = insL y L ∧ unF L [y] = false
  | [], _ => ⟨by rw [unL_nil_left]; rfl, unF_nil_left _⟩
  | x :: L, hs => by
    rw [hasK_cons, Bool.or_eq_false_iff] at hs
    obtain ⟨hs1, hs2⟩ := hs
    obtain ⟨i1, i2⟩ := unL_not hs2
    rw [unL_cons, unF_cons]
    by_cases h1 : lessK x.k y.k = true
    · rw [if_pos h1, if_pos h1, i1, i2]
      refine ⟨?_, rfl⟩
      show _ = if lessK y.k x.k = true then y :: x :: L else x :: insL y L
      rw [lessK_asym h1, if_neg (by simp)]
    · rw [if_neg h1, if_neg h1]
      by_cases h2 : lessK y.k x.k = true
      · rw [if_pos h2, if_pos h2, unL_nil_right, unF_nil_right]
        refine ⟨?_, rfl⟩
        show _ = if lessK y.k x.k = true then y :: x :: L else x :: insL y L
        rw [if_pos h2]
      · have := eq_of_not h1 h2
        rw [this, sameK_self] at hs1
        cases hs1
theorem insL_first {x : Ent} {L : List Ent} (h : ∀ y ∈ L, lessK x.k y.k = true) : insL x L = x :: L := by
  cases L with
  | nil => rfl
  | cons y L => show (if lessK x.k y.k = true then x :: y :: L else y :: insL x L) = _; rw [if_pos (h y (by simp))]
theorem lowL_cons (x : Ent) (L : List Ent) (d : Int) : lowL (x :: L) d = (if d < x.c then [⟨x.k, x.c - d, 0⟩] else []) ++ lowL L d := by
  unfold lowL
  rw [List.filter_cons]
  by_cases h : d < x.c
  · rw [if_pos (by simpa using h), if_pos h]; rfl
  · rw [if_neg (by simpa using h), if_neg h]; rfl
theorem lowL_mem {L : List Ent} {d : Int} {z : Ent} (h : z ∈ lowL L d) : ∃ x ∈ L, d < x.c ∧ z = ⟨x.k, x.c - d, 0⟩ := by
  unfold lowL at h
  obtain ⟨x, hx, rfl⟩ := List.mem_map.1 h
  obtain ⟨h1, h2⟩ := List.mem_filter.1 hx
  exact ⟨x, h1, by simpa using h2, rfl⟩
theorem lowL_asc {L : List Ent} (h : AscK L) (d : Int) : AscK (lowL L d) := by
  induction L with
  | nil => exact List.Pairwise.nil
  | cons x L ih =>
    rw [lowL_cons]
    by_cases hd : d < x.c
    · rw [if_pos hd]
      refine List.pairwise_cons.2 ⟨fun z hz => ?_, ih h.tail⟩
      obtain ⟨y, hy, -, rfl⟩ := lowL_mem hz
      exact h.head y hy
    · rw [if_neg hd]
      exact ih h.tail
theorem lowL_ins {x : Ent} {L : List Ent} (h : AscK L) (d : Int) : lowL (insL x L) d = if d < x.c then insL ⟨x.k, x.c - d, 0⟩ (lowL L d) else lowL L d := by
  induction L with
  | nil =>
    show lowL [x] d = _
    rw [lowL_cons, lowL_nil]
    by_cases hd : d < x.c
    · rw [if_pos hd, if_pos hd]; rfl
    · rw [if_neg hd, if_neg hd]; rfl
  | cons y L ih =>
    have i1 := ih h.tail
    show lowL (if lessK x.k y.k = true then x :: y :: L else y :: insL x L) d = _
    by_cases h1 : lessK x.k y.k = true
    · rw [if_pos h1, lowL_cons]
      by_cases hd : d < x.c
      · rw [if_pos hd, if_pos hd, insL_first]
        · rfl
        · intro z hz
          obtain ⟨a, ha, -, rfl⟩ := lowL_mem hz
          show lessK x.k a.k = true
          rcases List.mem_cons.1 ha with rfl | ha
          · exact h1
          · exact lessK_trans h1 (h.head a ha)
      · rw [if_neg hd, if_neg hd]; rfl
    · rw [if_neg h1, lowL_cons, i1, lowL_cons]
      by_cases hd : d < x.c
      · rw [if_pos hd, if_pos hd]
        by_cases hy : d < y.c
        · rw [if_pos hy]
          show _ = if lessK x.k y.k = true then _ else _
          rw [if_neg h1]
          rfl
        · rw [if_neg hy]; rfl
      · rw [if_neg hd, if_neg hd]
/-- Nothing is lowered by 0. -/
theorem lowL_zero {L : List Ent} (h : ∀ x ∈ L, 1 ≤ x.c ∧ x.e = 0) : lowL L 0 = L := by
  induction L with
  | nil => rfl
  | cons x L ih =>
    obtain ⟨h1, h2⟩ := h x (by simp)
    rw [lowL_cons, if_pos (by omega), ih (fun y hy => h y (by simp [hy]))]
    show (⟨x.k, x.c - 0, 0⟩ : Ent) :: L = x :: L
    congr 1
    cases x
    simp only [Ent.mk.injEq, true_and]
    dsimp only at h2
    omega
theorem srpl_zero {L : List Ent} {S : Int} (h : (L.length : Int) ≤ S) : srpl L S = 0 := by unfold srpl; rw [if_pos h]
/-- The smallest of a number and the counts. -/
def minC (x : Int) (L : List Ent) : Int := L.foldl (fun d y => min d y.c) x
theorem minC_le (L : List Ent) : ∀ x, minC x L ≤ x ∧ (∀ y ∈ L, minC x L ≤ y.c) ∧ (minC x L = x ∨ ∃ y ∈ L, minC x L = y.c) := by
  induction L with
  | nil => intro x; exact ⟨Int.le_refl _, (fun y hy => by cases hy), .inl rfl⟩
  | cons z L ih =>
    intro x
    obtain ⟨h1, h2, h3⟩ := ih (min x z.c)
    have e : minC x (z :: L) = minC (min x z.c) L := rfl
    rw [e]
    refine ⟨by omega, fun y hy => ?_, ?_⟩
    · rcases List.mem_cons.1 hy with rfl | hy
      · omega
      · exact h2 y hy
    · rcases h3 with h3 | ⟨y, hy, h3⟩
      · by_cases h4 : x ≤ z.c
        · left; omega
        · right; exact ⟨z, by simp, by omega⟩
      · right; exact ⟨y, by simp [hy], h3⟩
theorem minC_succ {L : List Ent} {j : Nat} (h : j < L.length) (x : Int) : minC x (L.take (j + 1)) = min (minC x (L.take j)) (L.getD j Ent.z).c := by
  unfold minC
  rw [take_succE h, List.foldl_append]
  rfl
theorem insL_mem {x z : Ent} {L : List Ent} : z ∈ insL x L ↔ z = x ∨ z ∈ L := by
  induction L with
  | nil => simp [insL]
  | cons y L ih =>
    show z ∈ (if lessK x.k y.k = true then x :: y :: L else y :: insL x L) ↔ _
    by_cases h : lessK x.k y.k = true
    · rw [if_pos h]; simp
    · rw [if_neg h, List.mem_cons, ih, List.mem_cons]
      constructor
      · rintro (h | h | h)
        · exact .inr (.inl h)
        · exact .inl h
        · exact .inr (.inr h)
      · rintro (h | h | h)
        · exact .inr (.inl h)
        · exact .inl h
        · exact .inr (.inr h)
/-- With one entry too many, the surplus is the smallest count. -/
theorem srpl_full {L : List Ent} {S : Int} {k : ByteArray} {x : Int} (h : (L.length : Int) = S) : srpl (insL ⟨k, x, 0⟩ L) S = minC x L := by
  unfold srpl
  rw [insL_len, if_neg (by omega), show L.length + 1 - 1 - S.toNat = 0 by omega]
  have hs := sortI_sorted (cnts (insL ⟨k, x, 0⟩ L))
  have hp := sortI_perm (cnts (insL ⟨k, x, 0⟩ L))
  have hl : (sortI (cnts (insL ⟨k, x, 0⟩ L))).length = L.length + 1 := by rw [sortI_len]; simp [cnts, insL_len]
  obtain ⟨h1, h2, h3⟩ := minC_le L x
  cases hc : sortI (cnts (insL ⟨k, x, 0⟩ L)) with
  | nil => rw [hc] at hl; simp at hl
  | cons a A =>
    rw [hc] at hs hp
    show a = _
    have ha : a ∈ cnts (insL ⟨k, x, 0⟩ L) := hp.mem_iff.1 (by simp)
    have hall : ∀ b ∈ cnts (insL ⟨k, x, 0⟩ L), a ≤ b := fun b hb => by
      have := hp.mem_iff.2 hb
      rcases List.mem_cons.1 this with rfl | h'
      · exact Int.le_refl _
      · exact (List.pairwise_cons.1 hs).1 b h'
    have hx := hall x (List.mem_map.2 ⟨⟨k, x, 0⟩, insL_mem.2 (.inl rfl), rfl⟩)
    have hy : ∀ y ∈ L, a ≤ y.c := fun y hy => hall y.c (List.mem_map.2 ⟨y, insL_mem.2 (.inr hy), rfl⟩)
    have hle : minC x L ≤ a := by
      obtain ⟨z, hz, rfl⟩ := List.mem_map.1 ha
      rcases insL_mem.1 hz with rfl | hz
      · exact h1
      · exact h2 z hz
    have hge : a ≤ minC x L := by
      rcases h3 with h3 | ⟨y, hy', h3⟩
      · rw [h3]; exact hx
      · rw [h3]; exact hy y hy'
    omega
theorem ValQ.ok1 {S T K : Int} {L : List Ent} (h : ValQ S T K L) : ∀ x ∈ L, 1 ≤ x.c ∧ x.e = 0 := fun x hx => by
  obtain ⟨i, hi, he⟩ := List.mem_iff_getElem.1 hx
  have h1 := h.ent i hi
  have e : L.getD i Ent.z = x := by simp [List.getD, hi, he]
  rw [e] at h1
  have := entQ_zero h1
  exact ⟨this.2.1, this.2.2.2⟩
theorem tF_zero (a : Int) (h0 : 0 ≤ a) (h1 : a ≤ 1099511627776) : tF a 0 = false := (tS_zero h0 h1).2
theorem insQ_has {S T K : Int} {L : List Ent} {s : Bool} {k : ByteArray} {x : Int} (h : ValQ S T K L) (hx : 1 ≤ x) {j : Nat} (hj : j < L.length) (hs : sameK (L.getD j Ent.z).k k = true) :
    sumQ ⟨S, T, K, L, s⟩ (oneQ S k x) = ⟨S, tS T x, K, L.set j ⟨(L.getD j Ent.z).k, tS (L.getD j Ent.z).c x, (L.getD j Ent.z).e⟩, (s || tF T x) || tF (L.getD j Ent.z).c x⟩ := by
  obtain ⟨u1, u2⟩ := unL_has (y := ⟨k, x, 0⟩) h.asc hj hs
  have hm : L.getD j Ent.z ∈ L := by
    rw [show L.getD j Ent.z = L[j] by simp [List.getD, hj]]
    exact List.getElem_mem hj
  have he : (L.getD j Ent.z).e = 0 := (h.ok1 _ hm).2
  have hc : 1 ≤ (L.getD j Ent.z).c := (h.ok1 _ hm).1
  have e1 : addE (L.getD j Ent.z) ⟨k, x, 0⟩ = ⟨(L.getD j Ent.z).k, tS (L.getD j Ent.z).c x, (L.getD j Ent.z).e⟩ := by rw [he]; rfl
  unfold sumQ oneQ
  dsimp only
  rw [u1, u2, srpl_zero (by rw [List.length_set]; exact h.len), lowL_zero, (tS_zero h.k0 h.k1).1, (tS_zero h.k0 h.k1).1, (tS_zero h.k0 h.k1).2, e1]
  · simp only [Bool.or_false, FQ.mk.injEq, true_and]
    cases s <;> cases (tF (L.getD j Ent.z).c x) <;> cases (tF T x) <;> rfl
  · intro y hy
    rcases List.mem_or_eq_of_mem_set hy with h' | rfl
    · exact h.ok1 y h'
    · refine ⟨?_, rfl⟩
      show 1 ≤ tS (L.getD j Ent.z).c x
      unfold tS satN nat0
      split <;> omega
theorem insQ_room {S T K : Int} {L : List Ent} {s : Bool} {k : ByteArray} {x : Int} (h : ValQ S T K L) (hx : 1 ≤ x) (hn : hasK L k = false) (hl : (L.length : Int) < S) :
    sumQ ⟨S, T, K, L, s⟩ (oneQ S k x) = ⟨S, tS T x, K, insL ⟨k, x, 0⟩ L, s || tF T x⟩ := by
  obtain ⟨u1, u2⟩ := unL_not (y := ⟨k, x, 0⟩) hn
  unfold sumQ oneQ
  dsimp only
  rw [u1, u2, srpl_zero (by rw [insL_len]; omega), lowL_zero, (tS_zero h.k0 h.k1).1, (tS_zero h.k0 h.k1).1, (tS_zero h.k0 h.k1).2]
  · simp only [Bool.or_false, FQ.mk.injEq, true_and]
  · intro y hy
    rcases insL_mem.1 hy with rfl | hy
    · exact ⟨hx, rfl⟩
    · exact h.ok1 y hy
theorem insQ_full {S T K : Int} {L : List Ent} {s : Bool} {k : ByteArray} {x : Int} (h : ValQ S T K L) (hx : 1 ≤ x) (hn : hasK L k = false) (hl : ¬ (L.length : Int) < S) :
    sumQ ⟨S, T, K, L, s⟩ (oneQ S k x) = ⟨S, tS T x, tS K (minC x L), if minC x L < x then insL ⟨k, x - minC x L, 0⟩ (lowL L (minC x L)) else lowL L (minC x L), (s || tF T x) || tF K (minC x L)⟩ := by
  obtain ⟨u1, u2⟩ := unL_not (y := ⟨k, x, 0⟩) hn
  unfold sumQ oneQ
  dsimp only
  rw [u1, u2, srpl_full (by have := h.len; omega), lowL_ins h.asc, (tS_zero h.k0 h.k1).1, (tS_zero h.k0 h.k1).2]
  simp only [Bool.or_false, FQ.mk.injEq, true_and]
/-- The entries in descending order of counts. -/
def DnC (L : List Ent) : Prop := L.Pairwise (fun x y => y.c ≤ x.c)
theorem befQ_le {x y : Ent} (h : bef x y = true) : y.c ≤ x.c := by
  unfold bef at h
  rw [Bool.or_eq_true] at h
  rcases h with h | h
  · have := of_decide_eq_true h; omega
  · rw [Bool.and_eq_true] at h
    have := eq_of_beq h.1
    omega
theorem befQ_ge {x y : Ent} (h : ¬ bef x y = true) : x.c ≤ y.c := by
  by_cases h2 : y.c < x.c
  · exact absurd (by unfold bef; rw [decide_eq_true h2]; rfl) h
  · omega
theorem pushQ_snoc (A : List Ent) (y x : Ent) : push (A ++ [y]) x = if bef x y = true then push A x ++ [y] else A ++ [y] ++ [x] := by
  unfold push
  rw [List.length_append, List.length_singleton]
  have g1 : (A ++ [y] ++ [x]).getD (A.length + 1) Ent.z = x := by simp [List.getD, List.getElem?_append]
  have g0 : (A ++ [y] ++ [x]).getD A.length Ent.z = y := by simp [List.getD, List.getElem?_append]
  conv => lhs; unfold sink
  rw [g1, g0]
  split
  · have e : swp (A ++ [y] ++ [x]) (A.length + 1) = A ++ [x] ++ [y] := by
      unfold swp
      rw [Nat.add_sub_cancel, g1, g0]
      simp [List.set_append]
    rw [e, sink_app [y] A.length (A ++ [x]) (by simp)]
  · rfl
theorem snoc_indQ {p : List Ent → Prop} (h0 : p []) (h1 : ∀ L c, p L → p (L ++ [c])) (L : List Ent) : p L := by
  rw [← List.reverse_reverse L]
  induction L.reverse with
  | nil => exact h0
  | cons c l ih => rw [List.reverse_cons]; exact h1 _ _ ih
theorem push_dn {A : List Ent} {x : Ent} (h : DnC A) : DnC (push A x) := by
  revert h
  refine snoc_indQ (p := fun A => DnC A → DnC (push A x)) ?_ ?_ A
  · intro _
    exact List.pairwise_singleton _ _
  · intro A y ih h
    rw [pushQ_snoc]
    have h' := List.pairwise_append.1 h
    by_cases hb : bef x y = true
    · rw [if_pos hb]
      refine List.pairwise_append.2 ⟨ih h'.1, List.pairwise_singleton _ _, fun a ha b hb' => ?_⟩
      rw [List.mem_singleton] at hb'
      subst hb'
      rcases List.mem_append.1 ((push_perm A x).mem_iff.1 ha) with h2 | h2
      · exact h'.2.2 a h2 b (by simp)
      · rw [List.mem_singleton] at h2; subst h2; exact befQ_le hb
    · rw [if_neg hb]
      refine List.pairwise_append.2 ⟨h, List.pairwise_singleton _ _, fun a ha b hb' => ?_⟩
      rw [List.mem_singleton] at hb'
      subst hb'
      have hyx := befQ_ge hb
      rcases List.mem_append.1 ha with h2 | h2
      · have := h'.2.2 a h2 y (by simp); omega
      · rw [List.mem_singleton] at h2; subst h2; exact hyx
theorem foldl_dn {L : List Ent} : ∀ {A : List Ent}, DnC A → DnC (L.foldl push A) := by
  induction L with
  | nil => intro A h; exact h
  | cons x L ih => intro A h; exact ih (push_dn h)
theorem sortE_dn (L : List Ent) : DnC (sortE L) := foldl_dn List.Pairwise.nil
theorem upI_uniq : ∀ {L M : List Int}, UpI L → UpI M → L.Perm M → L = M
  | [], M, _, _, p => (List.nil_perm.1 p).symm
  | x :: L, [], _, _, p => by have := p.length_eq; simp at this
  | x :: L, y :: M, hl, hm, p => by
    have hx : x ∈ y :: M := p.mem_iff.1 (by simp)
    have hy : y ∈ x :: L := p.mem_iff.2 (by simp)
    have h1 : y ≤ x := by
      rcases List.mem_cons.1 hx with rfl | h
      · exact Int.le_refl _
      · exact (List.pairwise_cons.1 hm).1 x h
    have h2 : x ≤ y := by
      rcases List.mem_cons.1 hy with rfl | h
      · exact Int.le_refl _
      · exact (List.pairwise_cons.1 hl).1 y h
    obtain rfl : x = y := by omega
    rw [upI_uniq (List.pairwise_cons.1 hl).2 (List.pairwise_cons.1 hm).2 (List.Perm.cons_inv p)]
theorem sort_rev (L : List Ent) : sortI (cnts L) = (cnts (sortE L)).reverse := by
  refine upI_uniq (sortI_sorted _) ?_ ?_
  · unfold UpI cnts
    rw [List.pairwise_reverse, List.pairwise_map]
    exact sortE_dn L
  · refine (sortI_perm _).trans ?_
    refine List.Perm.trans ?_ (List.reverse_perm _).symm
    exact ((sortE_perm L).map _).symm
/-- The count at position S of the descending order. -/
theorem srpl_desc {L : List Ent} {S : Int} (h : S < L.length) (h0 : 0 ≤ S) : srpl L S = ((sortE L).getD S.toNat Ent.z).c := by
  unfold srpl
  rw [if_neg (by omega), sort_rev]
  have hl : (cnts (sortE L)).length = L.length := by simp [cnts, sortE_len]
  rw [List.getD_eq_getElem?_getD, List.getElem?_reverse (by rw [hl]; omega), hl, show L.length - 1 - (L.length - 1 - S.toNat) = S.toNat by omega]
  have h3 : S.toNat < (sortE L).length := by rw [sortE_len]; omega
  simp [cnts, List.getD, h3]
end Go.Proofs.Ytmmdnomfpfcjiaa
