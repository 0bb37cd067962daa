/- FqE, FqR: in one text. -/
import Derived.Test.YtjibbnknliamkaaGreatDoorPg10
import Derived.Test.YtjibbnknliamkaaGreatDoorPg09
import Derived.Test.YtjibbnknliamkaaGreatDoorPg17
import Derived.Deep.RegionLaw
namespace Go.Proofs.YtjibbnknliamkaaGreatDoor
open Go.RowKit
set_option linter.unusedVariables false
set_option linter.unusedSimpArgs false
theorem AscK.tail {x : Ent} {L : List Ent} (h : AscK (x :: L)) : AscK L := (List.pairwise_cons.1 h).2
theorem AscK.head {x : Ent} {L : List Ent} (h : AscK (x :: L)) : ∀ y ∈ L, lessK x.k y.k = true := (List.pairwise_cons.1 h).1
theorem AscK.one (x : Ent) : AscK [x] := List.pairwise_singleton _ _
theorem ValQ.asc {S T K : Int} {L : List Ent} (h : ValQ S T K L) : AscK L := by
  have h1 := h.ord
  clear h
  induction L with
  | nil => exact List.Pairwise.nil
  | cons x L ih =>
    have hL := ih (fun i hi => by have := h1 (i + 1) (by simp; omega); simpa using this)
    refine List.pairwise_cons.2 ⟨?_, hL⟩
    cases L with
    | nil => intro y hy; cases hy
    | cons z L =>
      have h2 : lessK x.k z.k = true := by have := h1 0 (by simp); simpa using this
      intro y hy
      rcases List.mem_cons.1 hy with rfl | hy
      · exact h2
      · exact lessK_trans h2 (hL.head y hy)
theorem unL_keys : ∀ {L M : List Ent} {z : Ent}, z ∈ unL L M → (∃ x ∈ L, x.k = z.k) ∨ ∃ y ∈ M, y.k = z.k
  | [], M, z, h => by rw [unL_nil_left] at h; exact .inr ⟨z, h, rfl⟩
  | x :: L, [], z, h => by rw [unL_nil_right] at h; exact .inl ⟨z, h, rfl⟩
  | x :: L, y :: M, z, h => by
    rw [unL_cons] at h
    by_cases h1 : lessK x.k y.k = true
    · rw [if_pos h1] at h
      rcases List.mem_cons.1 h with rfl | h
      · exact .inl ⟨z, by simp, rfl⟩
      · rcases unL_keys h with ⟨a, ha, e⟩ | ⟨a, ha, e⟩
        · exact .inl ⟨a, by simp [ha], e⟩
        · exact .inr ⟨a, ha, e⟩
    · rw [if_neg h1] at h
      by_cases h2 : lessK y.k x.k = true
      · rw [if_pos h2] at h
        rcases List.mem_cons.1 h with rfl | h
        · exact .inr ⟨z, by simp, rfl⟩
        · rcases unL_keys h with ⟨a, ha, e⟩ | ⟨a, ha, e⟩
          · exact .inl ⟨a, ha, e⟩
          · exact .inr ⟨a, by simp [ha], e⟩
      · rw [if_neg h2] at h
        rcases List.mem_cons.1 h with rfl | h
        · exact .inl ⟨x, by simp, rfl⟩
        · rcases unL_keys h with ⟨a, ha, e⟩ | ⟨a, ha, e⟩
          · exact .inl ⟨a, by simp [ha], e⟩
          · exact .inr ⟨a, by simp [ha], e⟩
termination_by L M => L.length + M.length
theorem eq_of_not {a b : ByteArray} (h : ¬ lessK a b = true) (k : ¬ lessK b a = true) : a = b := by
  rcases lessK_tri a b with h1 | h1 | h1
  · exact absurd h1 h
  · exact h1
  · exact absurd h1 k
theorem unL_asc : ∀ {L M : List Ent}, AscK L → AscK M → AscK (unL L M)
  | [], M, _, hm => by rw [unL_nil_left]; exact hm
  | x :: L, [], hl, _ => by rw [unL_nil_right]; exact hl
  | x :: L, y :: M, hl, hm => by
    rw [unL_cons]
    by_cases h1 : lessK x.k y.k = true
    · rw [if_pos h1]
      refine List.pairwise_cons.2 ⟨fun z hz => ?_, unL_asc hl.tail hm⟩
      rcases unL_keys hz with ⟨a, ha, e⟩ | ⟨a, ha, e⟩
      · rw [← e]; exact hl.head a ha
      · rw [← e]
        rcases List.mem_cons.1 ha with rfl | ha
        · exact h1
        · exact lessK_trans h1 (hm.head a ha)
    · rw [if_neg h1]
      by_cases h2 : lessK y.k x.k = true
      · rw [if_pos h2]
        refine List.pairwise_cons.2 ⟨fun z hz => ?_, unL_asc hl hm.tail⟩
        rcases unL_keys hz with ⟨a, ha, e⟩ | ⟨a, ha, e⟩
        · rw [← e]
          rcases List.mem_cons.1 ha with rfl | ha
          · exact h2
          · exact lessK_trans h2 (hl.head a ha)
        · rw [← e]; exact hm.head a ha
      · rw [if_neg h2]
        have he := eq_of_not h1 h2
        refine List.pairwise_cons.2 ⟨fun z hz => ?_, unL_asc hl.tail hm.tail⟩
        rcases unL_keys hz with ⟨a, ha, e⟩ | ⟨a, ha, e⟩
        · rw [← e]; exact hl.head a ha
        · rw [← e]
          show lessK x.k a.k = true
          rw [he]
          exact hm.head a ha
termination_by L M => L.length + M.length
theorem hasK_cons (x : Ent) (L : List Ent) (k : ByteArray) : hasK (x :: L) k = (sameK x.k k || hasK L k) := by simp [hasK]
/-- An entry whose key there is. -/
theorem unL_has {y : Ent} : ∀ {L : List Ent}, AscK L → ∀ {j : Nat}, j < L.length → sameK (L.getD j Ent.z).k y.k = true → unL L [y] = L.set j (addE (L.getD j Ent.z) y) ∧ unF L [y] = tF_2 (L.getD j Ent.z).c y.c
  | [], _, j, h, _ => by simp at h
  | x :: L, hl, j, hj, hs => by
    rw [unL_cons, unF_cons]
    cases j with
    | zero =>
      have he : x.k = y.k := (sameK_iff _ _).1 hs
      have h1 : lessK x.k y.k = false := by rw [he]; exact lessK_irr _
      have h2 : lessK y.k x.k = false := by rw [he]; exact lessK_irr _
      rw [h1, h2, if_neg (by simp), if_neg (by simp), if_neg (by simp), if_neg (by simp), unL_nil_right, unF_nil_right, Bool.or_false]
      exact ⟨rfl, rfl⟩
    | succ j =>
      have hj' : j < L.length := by simpa using hj
      have e : (x :: L).getD (j + 1) Ent.z = L.getD j Ent.z := by simp [List.getD]
      rw [e] at hs ⊢
      have hm : L.getD j Ent.z ∈ L := by
        rw [show L.getD j Ent.z = L[j] by simp [List.getD, hj']]
        exact List.getElem_mem hj'
      have h1 : lessK x.k y.k = true := by rw [← (sameK_iff _ _).1 hs]; exact hl.head _ hm
      rw [if_pos h1, if_pos h1]
      obtain ⟨i1, i2⟩ := unL_has hl.tail hj' hs
      rw [i1, i2]
      exact ⟨rfl, rfl⟩
/-- An entry whose key there is not. -/
theorem unL_not {y : Ent} : ∀ {L : List Ent}, hasK L y.k = false → unL L [y] = insL y L ∧ unF L [y] = false
  | [], _ => ⟨by rw [unL_nil_left]; rfl, unF_nil_left _⟩
  | x :: L, hs => by
    rw [hasK_cons, Bool.or_eq_false_iff] at hs
    obtain ⟨hs1, hs2⟩ := hs
    obtain ⟨i1, i2⟩ := unL_not hs2
    rw [unL_cons, unF_cons]
    by_cases h1 : lessK x.k y.k = true
    · rw [if_pos h1, if_pos h1, i1, i2]
      refine ⟨?_, rfl⟩
      show _ = if lessK y.k x.k = true then y :: x :: L else x :: insL y L
      rw [lessK_asym h1, if_neg (by simp)]
    · rw [if_neg h1, if_neg h1]
      by_cases h2 : lessK y.k x.k = true
      · rw [if_pos h2, if_pos h2, unL_nil_right, unF_nil_right]
        refine ⟨?_, rfl⟩
        show _ = if lessK y.k x.k = true then y :: x :: L else x :: insL y L
        rw [if_pos h2]
      · have := eq_of_not h1 h2
        rw [this, sameK_self] at hs1
        cases hs1
theorem insL_first {x : Ent} {L : List Ent} (h : ∀ y ∈ L, lessK x.k y.k = true) : insL x L = x :: L := by
  cases L with
  | nil => rfl
  | cons y L => show (if lessK x.k y.k = true then x :: y :: L else y :: insL x L) = _; rw [if_pos (h y (by simp))]
theorem lowL_cons (x : Ent) (L : List Ent) (d : Int) : lowL_2 (x :: L) d = (if d < x.c then [⟨x.k, x.c - d, 0⟩] else []) ++ lowL_2 L d := by
  unfold lowL_2
  rw [List.filter_cons]
  by_cases h : d < x.c
  · rw [if_pos (by simpa using h), if_pos h]; rfl
  · rw [if_neg (by simpa using h), if_neg h]; rfl
theorem lowL_mem {L : List Ent} {d : Int} {z : Ent} (h : z ∈ lowL_2 L d) : ∃ x ∈ L, d < x.c ∧ z = ⟨x.k, x.c - d, 0⟩ := by
  unfold lowL_2 at h
  obtain ⟨x, hx, rfl⟩ := List.mem_map.1 h
  obtain ⟨h1, h2⟩ := List.mem_filter.1 hx
  exact ⟨x, h1, by simpa using h2, rfl⟩
theorem lowL_asc {L : List Ent} (h : AscK L) (d : Int) : AscK (lowL_2 L d) := by
  induction L with
  | nil => exact List.Pairwise.nil
  | cons x L ih =>
    rw [lowL_cons]
    by_cases hd : d < x.c
    · rw [if_pos hd]
      refine List.pairwise_cons.2 ⟨fun z hz => ?_, ih h.tail⟩
      obtain ⟨y, hy, -, rfl⟩ := lowL_mem hz
      exact h.head y hy
    · rw [if_neg hd]
      exact ih h.tail
theorem lowL_ins {x : Ent} {L : List Ent} (h : AscK L) (d : Int) : lowL_2 (insL x L) d = if d < x.c then insL ⟨x.k, x.c - d, 0⟩ (lowL_2 L d) else lowL_2 L d := by
  induction L with
  | nil =>
    show lowL_2 [x] d = _
    rw [lowL_cons, lowL_nil]
    by_cases hd : d < x.c
    · rw [if_pos hd, if_pos hd]; rfl
    · rw [if_neg hd, if_neg hd]; rfl
  | cons y L ih =>
    have i1 := ih h.tail
    show lowL_2 (if lessK x.k y.k = true then x :: y :: L else y :: insL x L) d = _
    by_cases h1 : lessK x.k y.k = true
    · rw [if_pos h1, lowL_cons]
      by_cases hd : d < x.c
      · rw [if_pos hd, if_pos hd, insL_first]
        · rfl
        · intro z hz
          obtain ⟨a, ha, -, rfl⟩ := lowL_mem hz
          show lessK x.k a.k = true
          rcases List.mem_cons.1 ha with rfl | ha
          · exact h1
          · exact lessK_trans h1 (h.head a ha)
      · rw [if_neg hd, if_neg hd]; rfl
    · rw [if_neg h1, lowL_cons, i1, lowL_cons]
      by_cases hd : d < x.c
      · rw [if_pos hd, if_pos hd]
        by_cases hy : d < y.c
        · rw [if_pos hy]
          show _ = if lessK x.k y.k = true then _ else _
          rw [if_neg h1]
          rfl
        · rw [if_neg hy]; rfl
      · rw [if_neg hd, if_neg hd]
/-- Nothing is lowered by 0. -/
theorem lowL_zero {L : List Ent} (h : ∀ x ∈ L, 1 ≤ x.c ∧ x.e = 0) : lowL_2 L 0 = L := by
  induction L with
  | nil => rfl
  | cons x L ih =>
    obtain ⟨h1, h2⟩ := h x (by simp)
    rw [lowL_cons, if_pos (by omega), ih (fun y hy => h y (by simp [hy]))]
    show (⟨x.k, x.c - 0, 0⟩ : Ent) :: L = x :: L
    congr 1
    cases x
    simp only [Ent.mk.injEq, true_and]
    dsimp only at h2
    omega
theorem srpl_zero {L : List Ent} {S : Int} (h : (L.length : Int) ≤ S) : srpl L S = 0 := by unfold srpl; rw [if_pos h]
/-- The smallest of a number and the counts. -/
def minC (x : Int) (L : List Ent) : Int := L.foldl (fun d y => min d y.c) x
theorem minC_le (L : List Ent) : ∀ x, minC x L ≤ x ∧ (∀ y ∈ L, minC x L ≤ y.c) ∧ (minC x L = x ∨ ∃ y ∈ L, minC x L = y.c) := by
  induction L with
  | nil => intro x; exact ⟨Int.le_refl _, (fun y hy => by cases hy), .inl rfl⟩
  | cons z L ih =>
    intro x
    obtain ⟨h1, h2, h3⟩ := ih (min x z.c)
    have e : minC x (z :: L) = minC (min x z.c) L := rfl
    rw [e]
    refine ⟨by omega, fun y hy => ?_, ?_⟩
    · rcases List.mem_cons.1 hy with rfl | hy
      · omega
      · exact h2 y hy
    · rcases h3 with h3 | ⟨y, hy, h3⟩
      · by_cases h4 : x ≤ z.c
        · left; omega
        · right; exact ⟨z, by simp, by omega⟩
      · right; exact ⟨y, by simp [hy], h3⟩
theorem minC_succ {L : List Ent} {j : Nat} (h : j < L.length) (x : Int) : minC x (L.take (j + 1)) = min (minC x (L.take j)) (L.getD j Ent.z).c := by
  unfold minC
  rw [take_succE h, List.foldl_append]
  rfl
theorem insL_mem {x z : Ent} {L : List Ent} : z ∈ insL x L ↔ z = x ∨ z ∈ L := by
  induction L with
  | nil => simp [insL]
  | cons y L ih =>
    show z ∈ (if lessK x.k y.k = true then x :: y :: L else y :: insL x L) ↔ _
    by_cases h : lessK x.k y.k = true
    · rw [if_pos h]; simp
    · rw [if_neg h, List.mem_cons, ih, List.mem_cons]
      constructor
      · rintro (h | h | h)
        · exact .inr (.inl h)
        · exact .inl h
        · exact .inr (.inr h)
      · rintro (h | h | h)
        · exact .inr (.inl h)
        · exact .inl h
        · exact .inr (.inr h)
/-- With one entry too many, the surplus is the smallest count. -/
theorem srpl_full {L : List Ent} {S : Int} {k : ByteArray} {x : Int} (h : (L.length : Int) = S) : srpl (insL ⟨k, x, 0⟩ L) S = minC x L := by
  unfold srpl
  rw [insL_len, if_neg (by omega), show L.length + 1 - 1 - S.toNat = 0 by omega]
  have hs := sortI_sorted (cnts (insL ⟨k, x, 0⟩ L))
  have hp := sortI_perm (cnts (insL ⟨k, x, 0⟩ L))
  have hl : (sortI (cnts (insL ⟨k, x, 0⟩ L))).length = L.length + 1 := by rw [sortI_len]; simp [cnts, insL_len]
  obtain ⟨h1, h2, h3⟩ := minC_le L x
  cases hc : sortI (cnts (insL ⟨k, x, 0⟩ L)) with
  | nil => rw [hc] at hl; simp at hl
  | cons a A =>
    rw [hc] at hs hp
    show a = _
    have ha : a ∈ cnts (insL ⟨k, x, 0⟩ L) := hp.mem_iff.1 (by simp)
    have hall : ∀ b ∈ cnts (insL ⟨k, x, 0⟩ L), a ≤ b := fun b hb => by
      have := hp.mem_iff.2 hb
      rcases List.mem_cons.1 this with rfl | h'
      · exact Int.le_refl _
      · exact (List.pairwise_cons.1 hs).1 b h'
    have hx := hall x (List.mem_map.2 ⟨⟨k, x, 0⟩, insL_mem.2 (.inl rfl), rfl⟩)
    have hy : ∀ y ∈ L, a ≤ y.c := fun y hy => hall y.c (List.mem_map.2 ⟨y, insL_mem.2 (.inr hy), rfl⟩)
    have hle : minC x L ≤ a := by
      obtain ⟨z, hz, rfl⟩ := List.mem_map.1 ha
      rcases insL_mem.1 hz with rfl | hz
      · exact h1
      · exact h2 z hz
    have hge : a ≤ minC x L := by
      rcases h3 with h3 | ⟨y, hy', h3⟩
      · rw [h3]; exact hx
      · rw [h3]; exact hy y hy'
    omega
theorem ValQ.ok1 {S T K : Int} {L : List Ent} (h : ValQ S T K L) : ∀ x ∈ L, 1 ≤ x.c ∧ x.e = 0 := fun x hx => by
  obtain ⟨i, hi, he⟩ := List.mem_iff_getElem.1 hx
  have h1 := h.ent i hi
  have e : L.getD i Ent.z = x := by simp [List.getD, hi, he]
  rw [e] at h1
  have := entQ_zero h1
  exact ⟨this.2.1, this.2.2.2⟩
theorem insQ_has {S T K : Int} {L : List Ent} {s : Bool} {k : ByteArray} {x : Int} (h : ValQ S T K L) (hx : 1 ≤ x) {j : Nat} (hj : j < L.length) (hs : sameK (L.getD j Ent.z).k k = true) :
    sumQ ⟨S, T, K, L, s⟩ (oneQ S k x) = ⟨S, tS T x, K, L.set j ⟨(L.getD j Ent.z).k, tS (L.getD j Ent.z).c x, (L.getD j Ent.z).e⟩, (s || tF_2 T x) || tF_2 (L.getD j Ent.z).c x⟩ := by
  obtain ⟨u1, u2⟩ := unL_has (y := ⟨k, x, 0⟩) h.asc hj hs
  have hm : L.getD j Ent.z ∈ L := by
    rw [show L.getD j Ent.z = L[j] by simp [List.getD, hj]]
    exact List.getElem_mem hj
  have he : (L.getD j Ent.z).e = 0 := (h.ok1 _ hm).2
  have hc : 1 ≤ (L.getD j Ent.z).c := (h.ok1 _ hm).1
  have e1 : addE (L.getD j Ent.z) ⟨k, x, 0⟩ = ⟨(L.getD j Ent.z).k, tS (L.getD j Ent.z).c x, (L.getD j Ent.z).e⟩ := by rw [he]; rfl
  unfold sumQ oneQ
  dsimp only
  rw [u1, u2, srpl_zero (by rw [List.length_set]; exact h.len), lowL_zero, (tS_zero h.k0 h.k1).1, (tS_zero h.k0 h.k1).1, (tS_zero h.k0 h.k1).2, e1]
  · simp only [Bool.or_false, FQ.mk.injEq, true_and]
    cases s <;> cases (tF_2 (L.getD j Ent.z).c x) <;> cases (tF_2 T x) <;> rfl
  · intro y hy
    rcases List.mem_or_eq_of_mem_set hy with h' | rfl
    · exact h.ok1 y h'
    · refine ⟨?_, rfl⟩
      show 1 ≤ tS (L.getD j Ent.z).c x
      unfold tS satN nat0
      split <;> omega
theorem insQ_room {S T K : Int} {L : List Ent} {s : Bool} {k : ByteArray} {x : Int} (h : ValQ S T K L) (hx : 1 ≤ x) (hn : hasK L k = false) (hl : (L.length : Int) < S) :
    sumQ ⟨S, T, K, L, s⟩ (oneQ S k x) = ⟨S, tS T x, K, insL ⟨k, x, 0⟩ L, s || tF_2 T x⟩ := by
  obtain ⟨u1, u2⟩ := unL_not (y := ⟨k, x, 0⟩) hn
  unfold sumQ oneQ
  dsimp only
  rw [u1, u2, srpl_zero (by rw [insL_len]; omega), lowL_zero, (tS_zero h.k0 h.k1).1, (tS_zero h.k0 h.k1).1, (tS_zero h.k0 h.k1).2]
  · simp only [Bool.or_false, FQ.mk.injEq, true_and]
  · intro y hy
    rcases insL_mem.1 hy with rfl | hy
    · exact ⟨hx, rfl⟩
    · exact h.ok1 y hy
theorem insQ_full {S T K : Int} {L : List Ent} {s : Bool} {k : ByteArray} {x : Int} (h : ValQ S T K L) (hx : 1 ≤ x) (hn : hasK L k = false) (hl : ¬ (L.length : Int) < S) :
    sumQ ⟨S, T, K, L, s⟩ (oneQ S k x) = ⟨S, tS T x, tS K (minC x L), if minC x L < x then insL ⟨k, x - minC x L, 0⟩ (lowL_2 L (minC x L)) else lowL_2 L (minC x L), (s || tF_2 T x) || tF_2 K (minC x L)⟩ := by
  obtain ⟨u1, u2⟩ := unL_not (y := ⟨k, x, 0⟩) hn
  unfold sumQ oneQ
  dsimp only
  rw [u1, u2, srpl_full (by have := h.len; omega), lowL_ins h.asc, (tS_zero h.k0 h.k1).1, (tS_zero h.k0 h.k1).2]
  simp only [Bool.or_false, FQ.mk.injEq, true_and]
end Go.Proofs.YtjibbnknliamkaaGreatDoor
namespace Go.Proofs.YtjibbnknliamkaaGreatDoor
open Go.RowKit
set_option linter.unusedVariables false
set_option linter.unusedSimpArgs false
/-- The struct of a summary as a row of its own type. -/
def TQ (g : Nat) (S T K : Int) (v : Value) (s : Bool) (w : World) : Prop := w.ownsRow 0 43 5 (.slice (some ⟨g, 0, none⟩) 1 1) 1 [.int .i64 S, .int .i64 T, .int .i64 K, v, .bool s]
section
variable {g : Nat} {S T K : Int} {v : Value} {s : Bool} {w w' : World}
theorem TQ.keep (h : TQ g S T K v s w) (hb : w'.heap[g]? = w.heap[g]?) : TQ g S T K v s w' := by
  obtain ⟨h1, h2⟩ := h
  refine ⟨h1, ?_⟩
  rcases h2 with ⟨he, _⟩ | ⟨g', cap, cur, he, hg, hc, r⟩
  · cases he
  · have e := he
    simp only [Value.slice.injEq, Option.some.injEq, Addr.mk.injEq] at e
    obtain ⟨⟨rfl, _⟩, _⟩ := e
    exact .inr ⟨g, cap, cur, he, hg, hb.trans hc, r⟩
theorem TQ.lt (h : TQ g S T K v s w) : g < w.heap.size := (World.ownsRow.lt h g rfl).2
theorem TQ.cells (h : TQ g S T K v s w) :
    (w.cell? ⟨g, 0, none⟩ = some (.int .i64 S) ∧ w.cell? ⟨g, 1, none⟩ = some (.int .i64 T) ∧ w.cell? ⟨g, 2, none⟩ = some (.int .i64 K) ∧ w.cell? ⟨g, 3, none⟩ = some v ∧ w.cell? ⟨g, 4, none⟩ = some (.bool s)) ∧ (w.frozen? ⟨g, 0, none⟩ = false ∧ w.frozen? ⟨g, 1, none⟩ = false ∧ w.frozen? ⟨g, 2, none⟩ = false ∧ w.frozen? ⟨g, 3, none⟩ = false ∧ w.frozen? ⟨g, 4, none⟩ = false) :=
  ⟨⟨World.ownsRow.cellAt h 0 (by omega), World.ownsRow.cellAt h 1 (by omega), World.ownsRow.cellAt h 2 (by omega), World.ownsRow.cellAt h 3 (by omega), World.ownsRow.cellAt h 4 (by omega)⟩, World.ownsRow.frozenAt h 0, World.ownsRow.frozenAt h 1, World.ownsRow.frozenAt h 2, World.ownsRow.frozenAt h 3, World.ownsRow.frozenAt h 4⟩
theorem TQ.set0 (h : TQ g S T K v s w) (c : Int) : TQ g c T K v s (w.setCell ⟨g, 0, none⟩ (.int .i64 c)) := (World.ownsRow.stored h 0 (.int .i64 c)).1
theorem TQ.set1 (h : TQ g S T K v s w) (c : Int) : TQ g S c K v s (w.setCell ⟨g, 1, none⟩ (.int .i64 c)) := (World.ownsRow.stored h 1 (.int .i64 c)).1
theorem TQ.set2 (h : TQ g S T K v s w) (c : Int) : TQ g S T c v s (w.setCell ⟨g, 2, none⟩ (.int .i64 c)) := (World.ownsRow.stored h 2 (.int .i64 c)).1
theorem TQ.set3 (h : TQ g S T K v s w) (u : Value) : TQ g S T K u s (w.setCell ⟨g, 3, none⟩ u) := (World.ownsRow.stored h 3 u).1
theorem TQ.set4 (h : TQ g S T K v s w) (r : Bool) : TQ g S T K v r (w.setCell ⟨g, 4, none⟩ (.bool r)) := (World.ownsRow.stored h 4 (.bool r)).1
theorem TQ.new (S T K : Int) (v : Value) (s : Bool) (w : World) : TQ w.heap.size S T K v s (w.alloc (.cells #[.int .i64 S, .int .i64 T, .int .i64 K, v, .bool s] 43)) :=
  ⟨rfl, .inr ⟨w.heap.size, 1, #[.int .i64 S, .int .i64 T, .int .i64 K, v, .bool s], rfl, Nat.zero_le _, Go.heap_alloc_new w _, Nat.le_refl _, by decide, rfl, rfl⟩⟩
/-- Entries of the call's own never lie in a summary's block. -/
theorem TQ.apart {B : Nat} {v0 : Value} {L : List Ent} (h : TQ g S T K v0 s w) (ho : OwnE B L v w) : v.ownBlock ≠ some g := by
  intro e
  rcases ho.2.2 with ⟨rfl, _⟩ | ⟨g', cap, cur, rfl, _, hc, _⟩
  · cases e
  · injection e with e
    have e : g' = g := e
    subst e
    rcases h.2 with ⟨he, _⟩ | ⟨g2, cap2, cur2, he, _, hc2, _⟩
    · cases he
    · simp only [Value.slice.injEq, Option.some.injEq, Addr.mk.injEq] at he
      obtain ⟨⟨rfl, _⟩, _⟩ := he
      rw [hc] at hc2
      injection hc2 with hc2
      injection hc2 with _ ht _
      cases ht
end
/-- A summary under way in block g; its entries are the call's own, in another block. -/
def RQ (B g : Nat) (c : FQ) (v : Value) (w : World) : Prop := TQ g c.S c.T c.K v c.s w ∧ OwnE B c.L v w ∧ B ≤ g
section
variable {B g : Nat} {S T K : Int} {L : List Ent} {s : Bool} {v : Value} {w w' : World}
theorem RQ.go {c : FQ} (h : RQ B g c v w) (hb : Below w.heap.size w w') : RQ B g c v w' := ⟨h.1.keep (hb.block _ h.1.lt), h.2.1.below hb, h.2.2⟩
theorem RQ.lt {c : FQ} (h : RQ B g c v w) : g < w.heap.size := h.1.lt
theorem RQ.setTS (h : RQ B g ⟨S, T, K, L, s⟩ v w) (t : Int) (r : Bool) : RQ B g ⟨S, t, K, L, r⟩ v ((w.setCell ⟨g, 1, none⟩ (.int .i64 t)).setCell ⟨g, 4, none⟩ (.bool r)) :=
  ⟨(h.1.set1 t).set4 r, (h.2.1.away (h.1.apart h.2.1) _ _).away (h.1.apart h.2.1) _ _, h.2.2⟩
theorem RQ.setKS (h : RQ B g ⟨S, T, K, L, s⟩ v w) (t : Int) (r : Bool) : RQ B g ⟨S, T, t, L, r⟩ v ((w.setCell ⟨g, 2, none⟩ (.int .i64 t)).setCell ⟨g, 4, none⟩ (.bool r)) :=
  ⟨(h.1.set2 t).set4 r, (h.2.1.away (h.1.apart h.2.1) _ _).away (h.1.apart h.2.1) _ _, h.2.2⟩
theorem RQ.setE {M : List Ent} {u : Value} (h : RQ B g ⟨S, T, K, L, s⟩ v w) (ho : OwnE B M u w) : RQ B g ⟨S, T, K, M, s⟩ u (w.setCell ⟨g, 3, none⟩ u) :=
  ⟨h.1.set3 u, ho.away (h.1.apart ho) _ _, h.2.2⟩
theorem RQ.setC {ge cap : Nat} (h : RQ B g ⟨S, T, K, L, s⟩ (.slice (some ⟨ge, 0, none⟩) L.length cap) w) {j : Nat} (hj : j < L.length) {c : Int} (hx : -9223372036854775808 ≤ c ∧ c ≤ 9223372036854775807) (r : Bool) :
    RQ B g ⟨S, T, K, L.set j ⟨(L.getD j Ent.z).k, c, (L.getD j Ent.z).e⟩, r⟩ (.slice (some ⟨ge, 0, none⟩) L.length cap) ((w.setCell ⟨ge, j * 3 + 1, none⟩ (.int .i64 c)).setCell ⟨g, 4, none⟩ (.bool r)) := by
  have h1 : OwnE B L (.slice (some ⟨ge, 0, none⟩) L.length cap) w := h.2.1
  have ha := h.1.apart h1
  have hn : g ≠ ge := fun e => ha (by rw [e]; rfl)
  have h2 := h1.storedC hj hx
  refine ⟨(h.1.keep (w' := w.setCell ⟨ge, j * 3 + 1, none⟩ (.int .i64 c)) (Below.heap_setCell _ ⟨ge, j * 3 + 1, none⟩ _ g hn)).set4 r, ?_, h.2.2⟩
  exact h2.away ha _ _
theorem RQ.newA {a : Option Addr} {n cap : Nat} (h : OwnE B L (.slice a n cap) w) (hB : B ≤ w.heap.size) :
    RQ B w.heap.size ⟨S, T, K, L, s⟩ (.slice a n cap) (w.alloc (.cells #[.int .i64 S, .int .i64 T, .int .i64 K, .slice a n cap, .bool s] 43)) := ⟨TQ.new _ _ _ _ _ _, h.alloc _, hB⟩
theorem RQ.newB {v0 : Value} {a : Option Addr} {n cap : Nat} (hz : TQ B 0 0 0 v0 false w) (h : OwnE (B + 1) L (.slice a n cap) w) :
    RQ B B ⟨S, T, K, L, s⟩ (.slice a n cap) (((((w.setCell ⟨B, 0, none⟩ (.int .i64 S)).setCell ⟨B, 1, none⟩ (.int .i64 T)).setCell ⟨B, 2, none⟩ (.int .i64 K)).setCell ⟨B, 3, none⟩ (.slice a n cap)).setCell ⟨B, 4, none⟩ (.bool s)) :=
  ⟨((((hz.set0 S).set1 T).set2 K).set3 _).set4 s, (((((h.mono (Nat.le_succ _)).away (hz.apart h) _ _).away (hz.apart h) _ _).away (hz.apart h) _ _).away (hz.apart h) _ _).away (hz.apart h) _ _, Nat.le_refl _⟩
theorem RQ.size {c : FQ} (h : RQ B g c v w) : B ≤ w.heap.size := Nat.le_of_lt (Nat.lt_of_le_of_lt h.2.2 h.1.lt)
end
theorem MI.c5 {W : World} {a : FQ} {v : Value} {k : ByteArray} {x : Int} {w : World} (h : MI W a v k x w) : w.cell? ⟨W.heap.size, 0, none⟩ = some (.int .i64 a.S) ∧ w.cell? ⟨W.heap.size, 1, none⟩ = some (.int .i64 a.T) ∧ w.cell? ⟨W.heap.size, 2, none⟩ = some (.int .i64 a.K) ∧ w.cell? ⟨W.heap.size, 3, none⟩ = some v ∧ w.cell? ⟨W.heap.size, 4, none⟩ = some (.bool a.s) := h.1.1
theorem MI.al {W : World} {a : FQ} {v : Value} {k : ByteArray} {x : Int} {w : World} (h : MI W a v k x w) (o : Obj) : MI W a v k x (w.alloc o) := h.go (b1 o)
theorem MI.drew {W : World} {a : FQ} {v : Value} {k : ByteArray} {x : Int} {w : World} (h : MI W a v k x w) : MI W a v k x w.drew := h.go (Below.refl _ _).drew
theorem allocQ_size (w : World) (o : Obj) : w.heap.size + 1 ≤ (w.alloc o).heap.size := by simp
theorem allocQ_size2 (w : World) (o : Obj) : w.heap.size + 1 ≤ (w.alloc o).drew.heap.size := allocQ_size w o
end Go.Proofs.YtjibbnknliamkaaGreatDoor
