/- SpcA, OthI, Tail, RdrN, KeyS: in one text. -/
import Derived.Test.YtjibbnknliamkaaGreatDoorPg01
import Derived.Test.YtjibbnknliamkaaGreatDoorPg04
import Derived.Test.YtjibbnknliamkaaGreatDoorPg06
import Derived.Test.YtjibbnknliamkaaGreatDoorPg03
import Derived.Test.YtjibbnknliamkaaGreatDoorPg00
import Derived.Deep.MidRow
import Derived.Shelf.Strconv.Itoa0
namespace Go.Proofs.YtjibbnknliamkaaGreatDoor
open Go.RowKit
set_option linter.unusedVariables false
set_option linter.unusedSimpArgs false
theorem u8_tri (a b : UInt8) : a < b ∨ a = b ∨ b < a := by
  by_cases h : a < b
  · exact .inl h
  · by_cases h2 : b < a
    · exact .inr (.inr h2)
    · exact .inr (.inl (UInt8.le_antisymm (UInt8.not_lt.1 h2) (UInt8.not_lt.1 h)))
theorem less_cons (a b : UInt8) (xs ys : List UInt8) : Op.bytesLess (a :: xs) (b :: ys) = true ↔ a < b ∨ (a = b ∧ Op.bytesLess xs ys = true) := by
  conv => lhs; unfold Op.bytesLess
  simp
theorem less_tri : ∀ a b : List UInt8, Op.bytesLess a b = true ∨ a = b ∨ Op.bytesLess b a = true
  | [], [] => .inr (.inl rfl)
  | [], _ :: _ => .inl (by simp [Op.bytesLess])
  | _ :: _, [] => .inr (.inr (by simp [Op.bytesLess]))
  | a :: xs, b :: ys => by
    rw [less_cons, less_cons]
    rcases u8_tri a b with h | rfl | h
    · exact .inl (.inl h)
    · rcases less_tri xs ys with h | rfl | h
      · exact .inl (.inr ⟨rfl, h⟩)
      · exact .inr (.inl rfl)
      · exact .inr (.inr (.inr ⟨rfl, h⟩))
    · exact .inr (.inr (.inl h))
theorem less_trans : ∀ {a b c : List UInt8}, Op.bytesLess a b = true → Op.bytesLess b c = true → Op.bytesLess a c = true
  | [], _, [], h1, h2 => by
    rename_i b
    cases b <;> simp [Op.bytesLess] at h2
  | [], _, _ :: _, _, _ => by simp [Op.bytesLess]
  | a :: xs, [], _, h1, _ => by simp [Op.bytesLess] at h1
  | a :: xs, b :: ys, [], _, h2 => by simp [Op.bytesLess] at h2
  | a :: xs, b :: ys, c :: zs, h1, h2 => by
    rw [less_cons] at h1 h2 ⊢
    rcases h1 with h1 | ⟨rfl, h1⟩
    · rcases h2 with h2 | ⟨rfl, h2⟩
      · exact .inl (UInt8.lt_trans h1 h2)
      · exact .inl h1
    · rcases h2 with h2 | ⟨rfl, h2⟩
      · exact .inl h2
      · exact .inr ⟨rfl, less_trans h1 h2⟩
theorem bef_iff (x y : Ent) : bef x y = true ↔ y.c < x.c ∨ (x.c = y.c ∧ lessK x.k y.k = true) := by
  unfold bef
  simp
theorem bef_trans {x y z : Ent} (h1 : bef x y = true) (h2 : bef y z = true) : bef x z = true := by
  rw [bef_iff] at h1 h2 ⊢
  rcases h1 with h1 | ⟨e1, h1⟩
  · rcases h2 with h2 | ⟨e2, h2⟩
    · exact .inl (by omega)
    · exact .inl (by omega)
  · rcases h2 with h2 | ⟨e2, h2⟩
    · exact .inl (by omega)
    · exact .inr ⟨by omega, by unfold lessK at *; exact less_trans h1 h2⟩
theorem bef_tot {x y : Ent} (h : sameK x.k y.k = false) (hn : bef x y = false) : bef y x = true := by
  rw [bef_iff]
  have hn' : ¬ (y.c < x.c ∨ (x.c = y.c ∧ lessK x.k y.k = true)) := fun e => by rw [(bef_iff x y).2 e] at hn; cases hn
  by_cases hlt : x.c < y.c
  · exact .inl hlt
  · have he : x.c = y.c := by omega
    refine .inr ⟨he.symm, ?_⟩
    have hk : lessK x.k y.k ≠ true := fun e => hn' (.inr ⟨he, e⟩)
    unfold lessK at hk ⊢
    rcases less_tri x.k.toList y.k.toList with h1 | h1 | h1
    · exact absurd h1 hk
    · unfold sameK at h; rw [h1] at h; simp at h
    · exact h1
/-- In order. -/
def Sorted (L : List Ent) : Prop := L.Pairwise (fun x y => bef x y = true)
/-- No key twice. -/
def Keyed (L : List Ent) : Prop := L.Pairwise (fun x y => sameK x.k y.k = false)
theorem Keyed.perm {L M : List Ent} (h : Keyed L) (p : M.Perm L) : Keyed M :=
  List.Pairwise.perm h p.symm (fun {x y} hxy => by rw [sameK_comm]; exact hxy)
theorem push_snoc (A : List Ent) (y x : Ent) : push (A ++ [y]) x = if bef x y = true then push A x ++ [y] else A ++ [y] ++ [x] := by
  unfold push
  rw [List.length_append, List.length_singleton]
  have g1 : (A ++ [y] ++ [x]).getD (A.length + 1) Ent.z = x := by simp [List.getD, List.getElem?_append]
  have g0 : (A ++ [y] ++ [x]).getD A.length Ent.z = y := by simp [List.getD, List.getElem?_append]
  conv => lhs; unfold sink
  rw [g1, g0]
  split
  · have e : swp (A ++ [y] ++ [x]) (A.length + 1) = A ++ [x] ++ [y] := by
      unfold swp
      rw [Nat.add_sub_cancel, g1, g0]
      simp [List.set_append]
    rw [e, sink_app [y] A.length (A ++ [x]) (by simp)]
  · rfl
theorem snoc_ind9 {p : List Ent → Prop} (h0 : p []) (h1 : ∀ L c, p L → p (L ++ [c])) (L : List Ent) : p L := by
  rw [← List.reverse_reverse L]
  induction L.reverse with
  | nil => exact h0
  | cons c l ih => rw [List.reverse_cons]; exact h1 _ _ ih
theorem push_sorted {A : List Ent} {x : Ent} (h : Sorted A) (hk : ∀ y ∈ A, sameK x.k y.k = false) : Sorted (push A x) := by
  induction A using snoc_ind9 with
  | h0 => simp [push, sink, Sorted]
  | h1 A y ih =>
    rw [push_snoc]
    unfold Sorted at h ih ⊢
    rw [List.pairwise_append] at h
    obtain ⟨hA, -, hy⟩ := h
    split
    · rename_i hb
      rw [List.pairwise_append]
      refine ⟨ih hA (fun z hz => hk z (List.mem_append_left _ hz)), List.pairwise_singleton _ _, fun a ha b hb' => ?_⟩
      rw [List.mem_singleton] at hb'
      subst hb'
      rcases List.mem_append.1 ((push_perm A x).mem_iff.1 ha) with h1 | h1
      · exact hy a h1 b (by simp)
      · rw [List.mem_singleton] at h1; subst h1; exact hb
    · rename_i hb
      have hyx : bef y x = true := bef_tot (hk y (by simp)) (by simpa using hb)
      rw [List.pairwise_append]
      refine ⟨by rw [List.pairwise_append]; exact ⟨hA, List.pairwise_singleton _ _, hy⟩, List.pairwise_singleton _ _, fun a ha b hb' => ?_⟩
      rw [List.mem_singleton] at hb'
      subst hb'
      rcases List.mem_append.1 ha with h1 | h1
      · exact bef_trans (hy a h1 y (by simp)) hyx
      · rw [List.mem_singleton] at h1; subst h1; exact hyx
theorem foldl_sorted {L : List Ent} : ∀ {A : List Ent}, Sorted A → Keyed (A ++ L) → Sorted (L.foldl push A) := by
  induction L with
  | nil => intro A h _; exact h
  | cons x L ih =>
    intro A h hk
    rw [List.foldl_cons]
    have hk' : Keyed ((A ++ [x]) ++ L) := by simpa using hk
    refine ih (push_sorted h (fun y hy => ?_)) (hk'.perm ((push_perm A x).append_right L))
    unfold Keyed at hk'
    rw [List.pairwise_append, List.pairwise_append] at hk'
    rw [sameK_comm]
    exact hk'.1.2.2 y hy x (by simp)
/-- Sorting entries whose keys differ gives a list in order. -/
theorem sortE_sorted {L : List Ent} (h : Keyed L) : Sorted (sortE L) := foldl_sorted List.Pairwise.nil (by simpa using h)
def sumC : List Ent → Int
  | [] => 0
  | x :: L => x.c + sumC L
theorem sumC_app (L M : List Ent) : sumC (L ++ M) = sumC L + sumC M := by
  induction L with
  | nil => simp [sumC]
  | cons x L ih => simp only [List.cons_append, sumC, ih]; omega
theorem sumC_perm {L M : List Ent} (p : L.Perm M) : sumC L = sumC M := by
  induction p with
  | nil => rfl
  | cons x _ ih => simp only [sumC, ih]
  | swap x y l => simp only [sumC]; omega
  | trans _ _ h1 h2 => exact h1.trans h2
theorem sumC_ge {L : List Ent} {m : Int} (h : ∀ x ∈ L, m ≤ x.c) : m * L.length ≤ sumC L := by
  induction L with
  | nil => simp [sumC]
  | cons x L ih =>
    have h1 := h x (List.mem_cons_self ..)
    have h2 := ih (fun y hy => h y (List.mem_cons_of_mem _ hy))
    simp only [sumC, List.length_cons]
    rw [show ((L.length + 1 : Nat) : Int) = (L.length : Int) + 1 by omega, Int.mul_add]
    omega
theorem sumC_mem {L : List Ent} (h : ∀ x ∈ L, 0 ≤ x.c) {x : Ent} (hx : x ∈ L) : x.c ≤ sumC L := by
  induction L with
  | nil => cases hx
  | cons y L ih =>
    have h1 := h y (List.mem_cons_self ..)
    have h2 := fun z hz => h z (List.mem_cons_of_mem y hz)
    have h3 := sumC_ge (m := 0) h2
    simp only [sumC]
    rcases List.mem_cons.1 hx with rfl | hx
    · omega
    · have := ih h2 hx; omega
theorem entE_zero {x : Ent} (h : entE x = 0) : keyB (byt x.k) = true ∧ 1 ≤ x.c ∧ x.c ≤ 1099511627776 ∧ 0 ≤ x.e ∧ x.e < x.c := by
  unfold entE at h
  split at h
  · cases h
  · rename_i hk
    split at h
    · cases h
    · exact ⟨by simpa using hk, by omega, by omega, by omega, by omega⟩
theorem entE_of {x : Ent} (hk : keyB (byt x.k) = true) (h1 : 1 ≤ x.c) (h2 : x.c ≤ 1099511627776) (h3 : 0 ≤ x.e) (h4 : x.e < x.c) : entE x = 0 := by
  unfold entE
  rw [if_neg (by rw [hk]; simp), if_neg (by omega)]
theorem hasK_iff (L : List Ent) (k : ByteArray) : hasK L k = true ↔ ∃ x ∈ L, x.k = k := by
  unfold hasK
  rw [List.any_eq_true]
  simp only [sameK_iff]
theorem hasK_not {L : List Ent} {k : ByteArray} (h : hasK L k = false) {x : Ent} (hx : x ∈ L) : sameK x.k k = false := by
  cases hs : sameK x.k k with
  | false => rfl
  | true => rw [(hasK_iff L k).2 ⟨x, hx, (sameK_iff _ _).1 hs⟩] at h; cases h
theorem Keyed.one {L : List Ent} (h : Keyed L) : OneL L := fun i hi => by
  cases hh : hasK (L.take i) (L.getD i Ent.z).k with
  | false => rfl
  | true =>
    obtain ⟨x, hx, he⟩ := (hasK_iff _ _).1 hh
    have hg : L.getD i Ent.z = L[i] := by simp [List.getD, hi]
    rw [hg] at he
    obtain ⟨j, hj, rfl⟩ := List.mem_take_iff_getElem.1 hx
    have := List.pairwise_iff_getElem.1 h j i (by omega) hi (by omega)
    rw [he, sameK_self] at this
    cases this
theorem Keyed.find {L : List Ent} (h : Keyed L) {x : Ent} (hx : x ∈ L) (l : Int) : entAt L x.k l = x := by
  obtain ⟨i, hi, rfl⟩ := List.mem_iff_getElem.1 hx
  have := entAt_self h.one hi l
  have hg : L.getD i Ent.z = L[i] := by simp [List.getD, hi]
  rwa [hg] at this
theorem entAt_none {L : List Ent} {k : ByteArray} (h : hasK L k = false) (l : Int) : entAt L k l = ⟨k, l, l⟩ := by
  unfold entAt
  rw [if_neg (by rw [h]; simp)]
/-- The least count is no greater than any. -/
theorem leastI_le {S : Int} {L : List Ent} (hs : Sorted L) (h0 : ∀ x ∈ L, 0 ≤ x.c) {x : Ent} (hx : x ∈ L) : leastI S L ≤ x.c := by
  unfold leastI
  split
  · exact h0 x hx
  · obtain ⟨i, hi, rfl⟩ := List.mem_iff_getElem.1 hx
    have hg : L.getD (L.length - 1) Ent.z = L[L.length - 1] := by simp [List.getD, show L.length - 1 < L.length by omega]
    rw [hg]
    by_cases he : i = L.length - 1
    · subst he; exact Int.le_refl _
    · have := List.pairwise_iff_getElem.1 hs i (L.length - 1) hi (by omega) (by omega)
      rcases (bef_iff _ _).1 this with h | ⟨h, _⟩ <;> omega
theorem leastI_pos {S : Int} {L : List Ent} (h0 : ∀ x ∈ L, 0 ≤ x.c) : 0 ≤ leastI S L := by
  unfold leastI
  split
  · exact Int.le_refl _
  · have hg : L.getD (L.length - 1) Ent.z = L[L.length - 1] := by simp [List.getD, show L.length - 1 < L.length by omega]
    rw [hg]
    exact h0 _ (List.getElem_mem _)
theorem leastI_ge {S m : Int} {L : List Ent} (h0 : ∀ x ∈ L, 0 ≤ x.c) (hS : 1 ≤ S) (h : (m ≤ 0) ∨ ((L.length : Int) = S ∧ ∀ x ∈ L, m ≤ x.c)) : m ≤ leastI S L := by
  rcases h with h | ⟨hl, h⟩
  · have := leastI_pos (S := S) h0; omega
  · unfold leastI
    rw [if_neg (by omega)]
    have hg : L.getD (L.length - 1) Ent.z = L[L.length - 1] := by simp [List.getD, show L.length - 1 < L.length by omega]
    rw [hg]
    exact h _ (List.getElem_mem _)
theorem leastI_room {S : Int} {L : List Ent} (h : (L.length : Int) ≠ S) : leastI S L = 0 := by
  unfold leastI
  rw [if_pos (.inr h)]
theorem leastI_sum {S : Int} {L : List Ent} (hS : 1 ≤ S) (hs : Sorted L) (h0 : ∀ x ∈ L, 0 ≤ x.c) : leastI S L * S ≤ sumC L := by
  by_cases h : (L.length : Int) = S
  · have := sumC_ge (fun x hx => leastI_le (S := S) hs h0 hx)
    rw [h] at this
    exact this
  · rw [leastI_room h]
    have := sumC_ge (m := 0) h0
    omega
/-- A summary whose insertions had the weights f, W together. -/
structure Spc (S : Int) (f : ByteArray → Int) (W : Int) (c : TP) : Prop where
  hS : c.S = S
  s0 : 1 ≤ S
  s1 : S ≤ 32
  hT : c.T = W
  w0 : 0 ≤ W
  w1 : W ≤ 1099511627776
  hs : c.s = false
  len : (c.L.length : Int) ≤ S
  key : Keyed c.L
  srt : Sorted c.L
  ent : ∀ x ∈ c.L, entE x = 0
  sum : sumC c.L ≤ W
  err : ∀ x ∈ c.L, x.e * S ≤ W
  lo : ∀ x ∈ c.L, x.c - x.e ≤ f x.k ∧ f x.k ≤ x.c
  un : ∀ k, hasK c.L k = false → f k ≤ leastI S c.L
  pos : ∀ k, 0 ≤ f k
theorem Spc.c0 {S : Int} {f : ByteArray → Int} {W : Int} {c : TP} (h : Spc S f W c) : ∀ x ∈ c.L, 0 ≤ x.c := fun x hx => by have := entE_zero (h.ent x hx); omega
theorem Spc.bd {S : Int} {f : ByteArray → Int} {W : Int} {c : TP} (h : Spc S f W c) : (-9223372036854775808 ≤ c.S ∧ c.S ≤ 9223372036854775807) ∧ (-9223372036854775808 ≤ c.T ∧ c.T ≤ 9223372036854775807) := by
  have h1 := h.hS
  have h2 := h.hT
  have h3 := h.s0
  have h4 := h.s1
  have h5 := h.w0
  have h6 := h.w1
  omega
theorem Spc.least {S : Int} {f : ByteArray → Int} {W : Int} {c : TP} (h : Spc S f W c) : leastI S c.L * S ≤ W := Int.le_trans (leastI_sum h.s0 h.srt h.c0) h.sum
theorem Spc.valid {S : Int} {f : ByteArray → Int} {W : Int} {c : TP} (h : Spc S f W c) : valE c.S c.T c.L = 0 := by
  have g : ∀ i (hi : i < c.L.length), c.L.getD i Ent.z = c.L[i] := fun i hi => by simp [List.getD, hi]
  refine valE_of ⟨by rw [h.hS]; exact h.s0, by rw [h.hS]; exact h.s1, by rw [h.hT]; exact h.w0, by rw [h.hT]; exact h.w1, by rw [h.hS]; exact h.len, fun i hi => ?_, h.key.one, fun i hi => ?_⟩
  · rw [g i hi]; exact h.ent _ (List.getElem_mem _)
  · rw [g i (by omega), g (i + 1) hi]
    exact List.pairwise_iff_getElem.1 h.srt i (i + 1) (by omega) hi (by omega)
theorem Spc.new {S : Int} (h0 : 1 ≤ S) (h1 : S ≤ 32) : Spc S (fun _ => 0) 0 (newT S) := by
  have e : newT S = ⟨S, 0, [], false⟩ := by unfold newT; rw [if_neg (by omega)]
  rw [e]
  exact ⟨rfl, h0, h1, rfl, by omega, by omega, rfl, by simp; omega, List.Pairwise.nil, List.Pairwise.nil, by simp, by simp [sumC], by simp, by simp, fun k _ => by simp [leastI], fun _ => by omega⟩
/-- What is known of any key. -/
theorem Spc.any {S : Int} {f : ByteArray → Int} {W : Int} {c : TP} (h : Spc S f W c) (k : ByteArray) :
    (entAt c.L k (leastI S c.L)).c - (entAt c.L k (leastI S c.L)).e ≤ f k ∧ f k ≤ (entAt c.L k (leastI S c.L)).c ∧ (entAt c.L k (leastI S c.L)).e * S ≤ W ∧ 0 ≤ (entAt c.L k (leastI S c.L)).e ∧ (entAt c.L k (leastI S c.L)).c ≤ W ∧ leastI S c.L ≤ (entAt c.L k (leastI S c.L)).c ∧ (entAt c.L k (leastI S c.L)).e ≤ (entAt c.L k (leastI S c.L)).c := by
  have hl := h.least
  have hl0 := leastI_pos (S := S) h.c0
  have hlW : leastI S c.L ≤ W := by
    have := Int.mul_le_mul_of_nonneg_left h.s0 hl0
    omega
  cases hk : hasK c.L k with
  | true =>
    obtain ⟨x, hx, rfl⟩ := (hasK_iff _ _).1 hk
    rw [h.key.find hx]
    have he := entE_zero (h.ent x hx)
    exact ⟨(h.lo x hx).1, (h.lo x hx).2, h.err x hx, he.2.2.2.1, Int.le_trans (sumC_mem h.c0 hx) h.sum, leastI_le h.srt h.c0 hx, by omega⟩
  | false =>
    rw [entAt_none hk]
    have := h.pos k
    exact ⟨by dsimp only; omega, h.un k hk, hl, hl0, hlW, Int.le_refl _, Int.le_refl _⟩
theorem tS_sum {a b : Int} (h0 : 0 ≤ a) (h1 : 0 ≤ b) (h : a + b ≤ 1099511627776) : tS a b = a + b := by unfold tS satN nat0; split <;> omega
theorem tF_sum {a b : Int} (h0 : 0 ≤ a) (h1 : 0 ≤ b) (h : a + b ≤ 1099511627776) : tF_2 a b = false := by unfold tF_2 satF nat0; simp; omega
theorem itemE_zero {k : List Int} {x : Int} (h : itemE k x = 0) : keyB k = true ∧ 1 ≤ x ∧ x ≤ 4294967295 := by
  unfold itemE at h
  split at h
  · cases h
  · rename_i hk
    split at h
    · cases h
    · exact ⟨by simpa using hk, by omega, by omega⟩
theorem set_split {L : List Ent} {j : Nat} (h : j < L.length) (y : Ent) : L.set j y = L.take j ++ y :: L.drop (j + 1) := by
  rw [List.set_eq_take_append_cons_drop, if_pos h]
theorem self_split {L : List Ent} {j : Nat} (h : j < L.length) : L = L.take j ++ L[j] :: L.drop (j + 1) := by
  rw [← List.drop_eq_getElem_cons h, List.take_append_drop]
theorem sumC_set {L : List Ent} {j : Nat} (h : j < L.length) (y : Ent) : sumC (L.set j y) = sumC L - (L[j]).c + y.c := by
  have h1 : sumC L = sumC (L.take j) + ((L[j]).c + sumC (L.drop (j + 1))) := by
    conv => lhs; rw [self_split h]
    rw [sumC_app]
    rfl
  rw [set_split h, sumC_app, h1]
  simp only [sumC]
  omega
/-- Facts on a list of entries, in any order, that make a summary. -/
theorem Spc.make {S W : Int} {f : ByteArray → Int} {A : List Ent} (s0 : 1 ≤ S) (s1 : S ≤ 32) (w0 : 0 ≤ W) (w1 : W ≤ 1099511627776) (len : (A.length : Int) ≤ S) (key : Keyed A) (ent : ∀ x ∈ A, entE x = 0) (sum : sumC A ≤ W) (err : ∀ x ∈ A, x.e * S ≤ W) (lo : ∀ x ∈ A, x.c - x.e ≤ f x.k ∧ f x.k ≤ x.c)
    (un : ∀ k, hasK A k = false → f k ≤ 0 ∨ ((A.length : Int) = S ∧ ∀ x ∈ A, f k ≤ x.c)) (pos : ∀ k, 0 ≤ f k) : Spc S f W ⟨S, W, sortE A, false⟩ := by
  have p := sortE_perm A
  have m : ∀ {x}, x ∈ sortE A → x ∈ A := fun h => p.mem_iff.1 h
  refine ⟨rfl, s0, s1, rfl, w0, w1, rfl, by rw [sortE_len]; exact len, key.perm p, sortE_sorted key, fun x hx => ent x (m hx), by rw [sumC_perm p]; exact sum, fun x hx => err x (m hx), fun x hx => lo x (m hx), fun k hk => ?_, pos⟩
  have hk' : hasK A k = false := by
    cases h : hasK A k with
    | false => rfl
    | true =>
      obtain ⟨x, hx, he⟩ := (hasK_iff _ _).1 h
      rw [(hasK_iff _ _).2 ⟨x, p.symm.mem_iff.1 hx, he⟩] at hk
      cases hk
  refine leastI_ge (fun x hx => by have := entE_zero (ent x (m hx)); omega) s0 ?_
  rcases un k hk' with h | ⟨h1, h2⟩
  · exact .inl h
  · exact .inr ⟨by rw [sortE_len]; exact h1, fun x hx => h2 x (m hx)⟩
/-- The weight of one more item. -/
def addW (f : ByteArray → Int) (k : ByteArray) (x : Int) (k' : ByteArray) : Int := f k' + (if sameK k k' = true then x else 0)
theorem Spc.ins {S : Int} {f : ByteArray → Int} {W : Int} {c : TP} (h : Spc S f W c) {k : ByteArray} {x : Int} (hi : itemE (byt k) x = 0) (hw : W + x ≤ 1099511627776) : Spc S (addW f k x) (W + x) (insTop c k x) ∧ insE c k x = 0 := by
  have hv := h.valid
  obtain ⟨ik, i1, i2⟩ := itemE_zero hi
  have hE : insE c k x = 0 := by unfold insE; rw [if_neg (by rw [hv]; simp), hi]
  refine ⟨?_, hE⟩
  have hc0 := h.c0
  have w0 := h.w0
  have s0 := h.s0
  have hpos : ∀ k', 0 ≤ addW f k x k' := fun k' => by have := h.pos k'; unfold addW; split <;> omega
  have hT : tS c.T x = W + x := by rw [h.hT]; exact tS_sum w0 (by omega) hw
  have hTF : tF_2 c.T x = false := by rw [h.hT]; exact tF_sum w0 (by omega) hw
  unfold insTop
  rw [if_neg (by rw [hv]; simp), if_neg (by rw [hi]; simp), hT, hTF, h.hS, h.hs]
  cases hk : hasK c.L k with
  | true =>
    have hF : insF S c.L k x = false ∧ ∃ j, ∃ hj : j < c.L.length, (c.L[j]).k = k ∧ insA S c.L k x = c.L.set j ⟨k, (c.L[j]).c + x, (c.L[j]).e⟩ := by
      rcases findI_cases c.L k with ⟨_, j, hj, e, hs⟩ | ⟨h', _⟩
      · have g : c.L.getD j Ent.z = c.L[j] := by simp [List.getD, hj]
        rw [g] at hs
        have hkj := (sameK_iff _ _).1 hs
        have hcW : (c.L[j]).c + x ≤ 1099511627776 := by have := sumC_mem hc0 (List.getElem_mem hj); have := h.sum; omega
        have hcj := hc0 _ (List.getElem_mem hj)
        refine ⟨?_, j, hj, hkj, ?_⟩
        · unfold insF
          rw [if_pos hk, e, Int.toNat_natCast, g]
          exact tF_sum hcj (by omega) hcW
        · unfold insA
          rw [if_pos hk, e, Int.toNat_natCast, g, tS_sum hcj (by omega) hcW, hkj]
      · rw [hk] at h'; cases h'
    obtain ⟨hF, j, hj, hkj, hA⟩ := hF
    rw [hF, hA]
    have hX := List.getElem_mem hj
    have heX := entE_zero (h.ent _ hX)
    have hcX := sumC_mem hc0 hX
    have hsum := h.sum
    have hlo := h.lo _ hX
    have herr := h.err _ hX
    have hmem : ∀ y ∈ c.L.set j ⟨k, (c.L[j]).c + x, (c.L[j]).e⟩, y = ⟨k, (c.L[j]).c + x, (c.L[j]).e⟩ ∨ (y ∈ c.L ∧ sameK k y.k = false) := fun y hy => by
      obtain ⟨i, hi, rfl⟩ := List.mem_iff_getElem.1 hy
      rw [List.length_set] at hi
      by_cases he : i = j
      · subst he; exact .inl (by simp)
      · refine .inr ?_
        rw [List.getElem_set_ne (Ne.symm he)]
        refine ⟨List.getElem_mem _, ?_⟩
        show sameK k (c.L[i]'hi).k = false
        rw [← hkj]
        cases hs : sameK (c.L[j]).k (c.L[i]).k with
        | false => rfl
        | true =>
          have := h.key.one.inj (i := j) (j := i) (k := (c.L[i]).k) hj hi (by simpa [List.getD, hj] using hs) (by simpa [List.getD, hi] using sameK_self _)
          omega
    have hkey : Keyed (c.L.set j ⟨k, (c.L[j]).c + x, (c.L[j]).e⟩) := by
      have h0 := h.key
      unfold Keyed at h0 ⊢
      rw [List.pairwise_iff_getElem] at h0 ⊢
      intro a b ha hb hab
      rw [List.length_set] at ha hb
      have := h0 a b ha hb hab
      have ek : ∀ i (hi : i < c.L.length), ((c.L.set j ⟨k, (c.L[j]).c + x, (c.L[j]).e⟩)[i]'(by rw [List.length_set]; exact hi)).k = (c.L[i]).k := fun i hi => by
        rw [List.getElem_set]
        split
        · rename_i e; subst e; exact hkj.symm
        · rfl
      rw [ek a ha, ek b hb]
      exact this
    have hhas : ∀ k', hasK (c.L.set j ⟨k, (c.L[j]).c + x, (c.L[j]).e⟩) k' = false → sameK k k' = false ∧ hasK c.L k' = false := fun k' hk' => by
      have hn := fun y hy => hasK_not hk' (x := y) hy
      have hs := hn ⟨k, (c.L[j]).c + x, (c.L[j]).e⟩ (List.mem_iff_getElem.2 ⟨j, by rw [List.length_set]; exact hj, by simp⟩)
      refine ⟨hs, ?_⟩
      cases hh : hasK c.L k' with
      | false => rfl
      | true =>
        obtain ⟨y, hy, he⟩ := (hasK_iff _ _).1 hh
        obtain ⟨i, hi, rfl⟩ := List.mem_iff_getElem.1 hy
        by_cases hij : i = j
        · subst hij
          rw [hkj] at he
          rw [he, sameK_self] at hs
          cases hs
        · have := hn (c.L[i]) (List.mem_iff_getElem.2 ⟨i, by rw [List.length_set]; exact hi, by rw [List.getElem_set_ne (Ne.symm hij)]⟩)
          rw [he, sameK_self] at this
          cases this
    refine Spc.make s0 h.s1 (by omega) hw (by rw [List.length_set]; exact h.len) hkey (fun y hy => ?_) ?_ (fun y hy => ?_) (fun y hy => ?_) (fun k' hk' => ?_) hpos
    · rcases hmem y hy with rfl | ⟨hy, _⟩
      · exact entE_of ik (by dsimp only; omega) (by dsimp only; omega) heX.2.2.2.1 (by dsimp only; omega)
      · exact h.ent y hy
    · rw [sumC_set hj]; dsimp only; omega
    · rcases hmem y hy with rfl | ⟨hy, _⟩
      · dsimp only; omega
      · have := h.err y hy; omega
    · rcases hmem y hy with rfl | ⟨hy, hn⟩
      · unfold addW
        rw [if_pos (sameK_self k)]
        rw [hkj] at hlo
        dsimp only
        omega
      · unfold addW
        rw [if_neg (by rw [hn]; simp)]
        have := h.lo y hy
        omega
    · obtain ⟨h1, h2⟩ := hhas k' hk'
      have hu := h.un k' h2
      unfold addW
      rw [if_neg (by rw [h1]; simp)]
      by_cases hl : (c.L.length : Int) = S
      · refine .inr ⟨by rw [List.length_set]; exact hl, fun y hy => ?_⟩
        rcases hmem y hy with rfl | ⟨hy, _⟩
        · have := leastI_le (S := S) h.srt hc0 hX; dsimp only; omega
        · have := leastI_le (S := S) h.srt hc0 hy; omega
      · rw [leastI_room hl] at hu
        exact .inl (by omega)
  | false =>
    have hl0 := leastI_pos (S := S) hc0
    have hlW : leastI S c.L ≤ W := by have := Int.mul_le_mul_of_nonneg_left s0 hl0; have := h.least; omega
    have hent : entOf k (leastI S c.L + x) (leastI S c.L) = ⟨k, leastI S c.L + x, leastI S c.L⟩ := by
      unfold entOf
      rw [show min (leastI S c.L) (leastI S c.L + x - 1) = leastI S c.L by omega]
    have hF : insF S c.L k x = false := by unfold insF; rw [if_neg (by rw [hk]; simp)]; exact tF_sum hl0 (by omega) (by omega)
    have hA : insA S c.L k x = c.L.take (min c.L.length (S - 1).toNat) ++ [⟨k, leastI S c.L + x, leastI S c.L⟩] := by
      unfold insA
      rw [if_neg (by rw [hk]; simp), tS_sum hl0 (by omega) (by omega), hent]
    rw [hF, hA]
    have hlen := h.len
    have hfk : f k ≤ leastI S c.L := h.un k hk
    have hfk0 := h.pos k
    have hleast := h.least
    generalize hm : min c.L.length (S - 1).toNat = m
    have hmem : ∀ y ∈ c.L.take m ++ [(⟨k, leastI S c.L + x, leastI S c.L⟩ : Ent)], y = ⟨k, leastI S c.L + x, leastI S c.L⟩ ∨ (y ∈ c.L ∧ sameK k y.k = false) := fun y hy => by
      rcases List.mem_append.1 hy with hy | hy
      · have := List.mem_of_mem_take hy
        exact .inr ⟨this, by rw [sameK_comm]; exact hasK_not hk this⟩
      · exact .inl (List.mem_singleton.1 hy)
    have hkey : Keyed (c.L.take m ++ [(⟨k, leastI S c.L + x, leastI S c.L⟩ : Ent)]) := by
      unfold Keyed
      rw [List.pairwise_append]
      refine ⟨List.Pairwise.sublist (List.take_sublist _ _) h.key, List.pairwise_singleton _ _, fun a ha b hb => ?_⟩
      rw [List.mem_singleton] at hb
      subst hb
      exact hasK_not hk (List.mem_of_mem_take ha)
    have hsum : sumC (c.L.take m) + leastI S c.L ≤ W := by
      have hs := h.sum
      by_cases hl : (c.L.length : Int) = S
      · have e : c.L = c.L.take m ++ [c.L[c.L.length - 1]] := by
          have := self_split (L := c.L) (j := c.L.length - 1) (by omega)
          rw [show m = c.L.length - 1 by omega]
          conv => lhs; rw [this]
          rw [List.drop_eq_nil_of_le (by omega)]
        have hc : sumC c.L = sumC (c.L.take m) + (c.L[c.L.length - 1]).c := by
          conv => lhs; rw [e]
          rw [sumC_app]
          simp only [sumC]
          omega
        have hle := leastI_le (S := S) h.srt hc0 (List.getElem_mem (l := c.L) (show c.L.length - 1 < c.L.length by omega))
        omega
      · rw [leastI_room hl, show m = c.L.length by omega, List.take_length]
        omega
    refine Spc.make s0 h.s1 (by omega) hw (by rw [List.length_append, List.length_take]; simp; omega) hkey (fun y hy => ?_) ?_ (fun y hy => ?_) (fun y hy => ?_) (fun k' hk' => ?_) hpos
    · rcases hmem y hy with rfl | ⟨hy, _⟩
      · exact entE_of ik (by dsimp only; omega) (by dsimp only; omega) hl0 (by dsimp only; omega)
      · exact h.ent y hy
    · rw [sumC_app]; simp only [sumC]; omega
    · rcases hmem y hy with rfl | ⟨hy, _⟩
      · dsimp only; omega
      · have := h.err y hy; omega
    · rcases hmem y hy with rfl | ⟨hy, hn⟩
      · unfold addW
        rw [if_pos (sameK_self k)]
        dsimp only
        omega
      · unfold addW
        rw [if_neg (by rw [hn]; simp)]
        have := h.lo y hy
        omega
    · rw [hasK_app] at hk'
      obtain ⟨h1, h2⟩ := Bool.or_eq_false_iff.1 hk'
      have h3 : sameK k k' = false := by simpa [hasK] using h2
      unfold addW
      rw [if_neg (by rw [h3]; simp)]
      by_cases hl : (c.L.length : Int) = S
      · have hfl : f k' ≤ leastI S c.L := by
          cases hh : hasK c.L k' with
          | false => exact h.un k' hh
          | true =>
            obtain ⟨y, hy, he⟩ := (hasK_iff _ _).1 hh
            obtain ⟨i, hi, rfl⟩ := List.mem_iff_getElem.1 hy
            by_cases him : i < m
            · have : hasK (c.L.take m) k' = true := (hasK_iff _ _).2 ⟨c.L[i], List.mem_take_iff_getElem.2 ⟨i, by omega, rfl⟩, he⟩
              rw [this] at h1; cases h1
            · have hlo := h.lo _ hy
              rw [he] at hlo
              have e : leastI S c.L = (c.L[i]).c := by
                unfold leastI
                rw [if_neg (by omega), show c.L.length - 1 = i by omega]
                simp [List.getD, hi]
              omega
        refine .inr ⟨by rw [List.length_append, List.length_take]; simp; omega, fun y hy => ?_⟩
        rcases hmem y hy with rfl | ⟨hy, _⟩
        · dsimp only; omega
        · have := leastI_le (S := S) h.srt hc0 hy; omega
      · rw [show m = c.L.length by omega, List.take_length] at h1
        have := h.un k' h1
        rw [leastI_room hl] at this
        exact .inl (by omega)
end Go.Proofs.YtjibbnknliamkaaGreatDoor
namespace Go.Proofs.YtjibbnknliamkaaGreatDoor
open Go.RowKit
set_option linter.unusedVariables false
set_option linter.unusedSimpArgs false
/-- Only block g has turned. -/
def Oth (g : Nat) (w w' : World) : Prop := Below g w w' ∧ ∀ b, b ≠ g → w'.heap[b]? = w.heap[b]?
theorem OwnI.oth {B g : Nat} {L : List Int} {v : Value} {w w' : World} (h : OwnI B L v w) (ho : Oth g w w') (hg : g < B) : OwnI B L v w' := by
  obtain ⟨hy, h1, h2⟩ := h
  refine ⟨hy, h1, ?_⟩
  rcases h2 with h2 | ⟨b, cap, cur, rfl, hb', hg', r⟩
  · exact .inl h2
  · exact .inr ⟨b, cap, cur, rfl, hb', (ho.2 b (by omega)).trans hg', r⟩
theorem setCells_other (b : Nat) : ∀ (vs : List Value) (o : Nat) (w : World) (k : Nat), k ≠ b → (w.setCells b o vs).heap[k]? = w.heap[k]?
  | [], _, _, _, _ => rfl
  | v :: r, o, w, k, h => by
    rw [World.setCells, setCells_other b r (o + 1) _ k h]
    exact Below.heap_setCell w ⟨b, o, none⟩ v k h
theorem setCells_below (b : Nat) : ∀ (vs : List Value) (o : Nat) (w : World), Below b w (w.setCells b o vs)
  | [], _, _ => Below.refl _ _
  | v :: r, o, w => by
    rw [World.setCells]
    exact ((Below.refl b w).setCell (p := ⟨b, o, none⟩) (Nat.le_refl _) v).trans (setCells_below b r (o + 1) _)
/-- A slice of ints that came in can be read. -/
theorem inRow_rdJ {w : World} {a : Option Addr} {len cap : Nat} {z : List Int} (h : InRow .i64 w a len cap z) : RdI (z.take len) (.slice a len cap) w := by
  obtain ⟨h1, h2, h3, h4, h5⟩ := h
  have hl : (z.take len).length = len := by simp; omega
  refine ⟨fun n hn => wf_bd (h4 n (List.mem_of_mem_take hn)), a, cap, by rw [hl], by rw [hl]; exact h1, h2, fun hp => ?_⟩
  rw [hl] at hp
  obtain ⟨b, off, rfl, hb, hc⟩ := h5 (by omega)
  refine ⟨b, off, rfl, hb, fun j hj => ?_⟩
  rw [hl] at hj
  rw [hc j (by omega)]
  simp [List.getD, List.getElem?_take, hj]
end Go.Proofs.YtjibbnknliamkaaGreatDoor
namespace Go.Proofs.YtjibbnknliamkaaGreatDoor
open Go.RowKit
set_option linter.unusedVariables false
set_option linter.unusedSimpArgs false
/-- What b[k:] is. -/
def tlV : Value → Nat → Value
  | .slice a n c, k => .slice (if c = k then a else a.map (·.add k)) (n - k) (c - k)
  | v, _ => v
theorem Rd.tl {L : List Int} {v : Value} {w : World} (h : Rd L v w) (k : Nat) (hk : k ≤ L.length) : Rd (L.drop k) (tlV v k) w := by
  have h0 := h
  obtain ⟨hy, a, cap, rfl, h1, h2, h3⟩ := h
  by_cases hp : 0 < L.length
  · obtain ⟨b, off, rfl, hb, hc⟩ := h3 hp
    have := h0.cut k L.length hk (Nat.le_refl _) (if cap = k then some ⟨b, off, none⟩ else some ⟨b, off + k, none⟩) (fun h => by rw [if_neg (by omega)]) (m := L.length - k) (c := cap - k) rfl rfl
    rw [List.take_length] at this
    show Rd (L.drop k) (.slice (if cap = k then some (⟨b, off, none⟩ : Addr) else Option.map (fun x : Addr => x.add k) (some (⟨b, off, none⟩ : Addr))) (L.length - k) (cap - k)) w
    have e : (if cap = k then some (⟨b, off, none⟩ : Addr) else Option.map (fun x : Addr => x.add k) (some (⟨b, off, none⟩ : Addr))) = if cap = k then some (⟨b, off, none⟩ : Addr) else some (⟨b, off + k, none⟩ : Addr) := by
      by_cases h : cap = k <;> simp [h, Addr.add]
    rw [e]
    exact this
  · obtain rfl : L = [] := List.eq_nil_of_length_eq_zero (by omega)
    obtain rfl : k = 0 := by simpa using hk
    refine ⟨hy, ?_⟩
    exact ⟨_, cap, rfl, by simp, by omega, fun h => by simp at h⟩
end Go.Proofs.YtjibbnknliamkaaGreatDoor
namespace Go.Proofs.YtjibbnknliamkaaGreatDoor
open Go.RowKit
set_option linter.unusedVariables false
set_option linter.unusedSimpArgs false
theorem Oth.one (g : Nat) (w : World) (o : Nat) (u : Value) (m : Nat) : Oth g w ((w.setCell ⟨g, o, none⟩ u).drewN m) :=
  ⟨below_drewN ((Below.refl g w).setCell (p := ⟨g, o, none⟩) (Nat.le_refl _) _) _, fun b hb => Below.heap_setCell w ⟨g, o, none⟩ _ _ hb⟩
end Go.Proofs.YtjibbnknliamkaaGreatDoor
namespace Go.Proofs.YtjibbnknliamkaaGreatDoor
open Go.RowKit
set_option linter.unusedVariables false
set_option linter.unusedSimpArgs false
def keyTab : List ByteArray := [⟨#[97]⟩, ⟨#[98]⟩, ⟨#[99]⟩, ⟨#[100]⟩, ⟨#[101]⟩, ⟨#[102]⟩, ⟨#[97, 97]⟩, ⟨#[98, 32, 99]⟩, ⟨#[37, 54, 49]⟩, ⟨#[65, 58, 49]⟩, ⟨#[0]⟩, ⟨#[122, 47, 255]⟩]
def keyS (n : Int) : ByteArray := if n / 256 % 16 = 15 then strOfNums [n % 256, n / 2 % 256, n / 8 % 256] else keyTab.getD (n % 256 % 12).toNat ByteArray.empty
theorem keyTab_fin : ∀ i : Fin 12, 1 ≤ (keyTab.getD i.val ByteArray.empty).size ∧ (keyTab.getD i.val ByteArray.empty).size ≤ 3 := by decide +kernel
theorem keyS_bd (n : Int) : 1 ≤ (keyS n).size ∧ (keyS n).size ≤ 3 := by
  unfold keyS
  split
  · rw [str_size]; simp
  · exact keyTab_fin ⟨(n % 256 % 12).toNat, by omega⟩
theorem Own.three {c d e : Int} (hc : 0 ≤ c ∧ c ≤ 255) (hd : 0 ≤ d ∧ d ≤ 255) (he : 0 ≤ e ∧ e ≤ 255) (w : World) : Own w.heap.size [c, d, e] (.slice (some ⟨w.heap.size, 0, none⟩) 3 3) (w.alloc (.cells #[.int .u8 c, .int .u8 d, .int .u8 e] 5)) :=
  ⟨Byt.cons hc (Byt.cons hd (Byt.cons he Byt.nil)), rfl, .inr ⟨w.heap.size, 3, #[.int .u8 c, .int .u8 d, .int .u8 e], rfl, Nat.le_refl _, Go.heap_alloc_new w _, Nat.le_refl _, by decide, rfl, rfl⟩⟩
theorem mask4 (n : Int) : bits .and .i64 n 15 = n % 16 := i64_mask 4 (by decide) n
theorem mask8 (n : Int) : bits .and .i64 n 255 = n % 256 := i64_mask 8 (by decide) n
set_option maxRecDepth 100000 in
set_option maxHeartbeats 1000000 in
theorem key_any (n : Int) (w : World) (n0 : -9223372036854775808 ≤ n) (n1 : n ≤ 9223372036854775807) :
    Calls Tryz.prog 23 #[.int .i64 n] w fun e w' => e = .returned (.string (keyS n)) ∧ Below w.heap.size w w' := by
  have h1 := mask4 (n / 256)
  have h2 := mask8 n
  by_cases hk : n / 256 % 16 = 15
  · unfold keyS
    rw [if_pos hk]
    have hk' : (n / 256 % 16 == 15) = true := by simp [hk]
    have hb := (Own.three (c := n % 256) (d := n / 2 % 256) (e := n / 8 % 256) (by omega) (by omega) (by omega) (w.alloc (.cells #[.string ⟨#[97]⟩, .string ⟨#[98]⟩, .string ⟨#[99]⟩, .string ⟨#[100]⟩, .string ⟨#[101]⟩, .string ⟨#[102]⟩, .string ⟨#[97, 97]⟩, .string ⟨#[98, 32, 99]⟩, .string ⟨#[37, 54, 49]⟩, .string ⟨#[65, 58, 49]⟩, .string ⟨#[0]⟩, .string ⟨#[122, 47, 255]⟩] 9))).rd.conv
    have hz : (w.alloc (.cells #[.string ⟨#[97]⟩, .string ⟨#[98]⟩, .string ⟨#[99]⟩, .string ⟨#[100]⟩, .string ⟨#[101]⟩, .string ⟨#[102]⟩, .string ⟨#[97, 97]⟩, .string ⟨#[98, 32, 99]⟩, .string ⟨#[37, 54, 49]⟩, .string ⟨#[65, 58, 49]⟩, .string ⟨#[0]⟩, .string ⟨#[122, 47, 255]⟩] 9)).heap.size = w.heap.size + 1 := by simp
    rw [hz] at hb
    generalize strOfNums [n % 256, n / 2 % 256, n / 8 % 256] = R at *
    clear hz
    go_enter Tryz.func23, Tryz.ntmps23
    go_wp2
    go_ret
    exact ⟨rfl, ((Below.refl _ _).alloc (Nat.le_refl _) _).alloc (by simp) _⟩
  · unfold keyS
    rw [if_neg hk]
    have hk' : (n / 256 % 16 == 15) = false := beq_eq_false_iff_ne.2 hk
    obtain ⟨i, hi⟩ : ∃ i : Nat, n % 256 % 12 = (i : Int) := ⟨(n % 256 % 12).toNat, by omega⟩
    have hi12 : i < 12 := by omega
    have b0 : 0 ≤ n % 256 := by omega
    have b1 : n % 256 ≤ 255 := by omega
    rw [hi, Int.toNat_natCast]
    have hc : (w.alloc (.cells #[.string ⟨#[97]⟩, .string ⟨#[98]⟩, .string ⟨#[99]⟩, .string ⟨#[100]⟩, .string ⟨#[101]⟩, .string ⟨#[102]⟩, .string ⟨#[97, 97]⟩, .string ⟨#[98, 32, 99]⟩, .string ⟨#[37, 54, 49]⟩, .string ⟨#[65, 58, 49]⟩, .string ⟨#[0]⟩, .string ⟨#[122, 47, 255]⟩] 9)).cell? ⟨w.heap.size, i, none⟩ = some (.string (keyTab.getD i ByteArray.empty)) := by
      have e : (#[.string ⟨#[97]⟩, .string ⟨#[98]⟩, .string ⟨#[99]⟩, .string ⟨#[100]⟩, .string ⟨#[101]⟩, .string ⟨#[102]⟩, .string ⟨#[97, 97]⟩, .string ⟨#[98, 32, 99]⟩, .string ⟨#[37, 54, 49]⟩, .string ⟨#[65, 58, 49]⟩, .string ⟨#[0]⟩, .string ⟨#[122, 47, 255]⟩] : Array Value) = (keyTab.map Value.string).toArray := rfl
      rw [e, cell_of_row _ w.heap.size i _ 9 (0, 0) (Go.heap_alloc_new w _), List.getElem?_toArray, List.getElem?_map]
      have hl : i < keyTab.length := hi12
      simp [List.getD, hl]
    go_enter Tryz.func23, Tryz.ntmps23
    go_wp2
    go_ret
    exact ⟨rfl, (Below.refl _ _).alloc (Nat.le_refl _) _⟩
end Go.Proofs.YtjibbnknliamkaaGreatDoor
