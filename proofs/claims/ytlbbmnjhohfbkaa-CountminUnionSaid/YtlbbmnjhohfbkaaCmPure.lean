/- Facts on sketches as numbers: what insertions keep; cells and flag as true sums cut off at the limit. -/
import Derived.Test.YtlbbmnjhohfbkaaOffI
namespace Go.Proofs.Ytlbbmnjhohfbkaa
open Go.RowKit
set_option linter.unusedVariables false
set_option linter.unusedSimpArgs false
theorem insUp_bd {x S : Int} {k : ByteArray} {n : Int} {L : List Int} {s : Bool} (h : ∀ m ∈ L, 0 ≤ m ∧ m ≤ 4294967295) : ∀ r, ∀ m ∈ (insUp x S k n L s r).1, 0 ≤ m ∧ m ≤ 4294967295
  | 0 => h
  | r + 1 => fun m hm => by
    rw [insUp] at hm
    rcases List.mem_or_eq_of_mem_set hm with hm | rfl
    · exact insUp_bd h r m hm
    · exact sumT_bd _ _
theorem ins_ok {c : CM} (h : cmE c.D c.S c.L = 0) (k : ByteArray) (n : Int) (hi : itemE (byt k) n = 0) :
    cmIns c k n = ⟨c.D, c.S, c.x, (insUp c.x c.S k n c.L c.s c.D.toNat).1, (insUp c.x c.S k n c.L c.s c.D.toNat).2⟩ ∧ cmE c.D c.S (insUp c.x c.S k n c.L c.s c.D.toNat).1 = 0 ∧ cmInsE c k n = 0 := by
  obtain ⟨h1, h2, h3⟩ := cmE_ok h
  refine ⟨?_, cmE_mk h1 (by rw [insUp_len]; exact h2) (insUp_bd h3 _), ?_⟩
  · unfold cmIns
    rw [if_neg (by simp [h]), if_neg (by simp [hi])]
  · unfold cmInsE
    rw [if_neg (by simp [h]), hi]
/-- d is a sketch of c's shape and seed. -/
def Alike (c d : CM) : Prop := d.D = c.D ∧ d.S = c.S ∧ d.x = c.x ∧ cmE c.D c.S d.L = 0
theorem Alike.ins {c d : CM} (h : Alike c d) (k : ByteArray) (n : Int) (hi : itemE (byt k) n = 0) : Alike c (cmIns d k n) ∧ cmInsE d k n = 0 := by
  obtain ⟨h1, h2, h3, h4⟩ := h
  obtain ⟨e1, e2, e3⟩ := ins_ok (c := d) (by rw [h1, h2]; exact h4) k n hi
  rw [e1]
  rw [h1, h2] at e2
  exact ⟨⟨h1, h2, h3, by rw [h1, h2]; exact e2⟩, e3⟩
theorem Alike.up {c d : CM} (h : Alike c d) (l : List Int) : Alike c (mdUp d l) := by
  unfold mdUp
  induction l generalizing d with
  | nil => exact h
  | cons n l ih => exact ih (h.ins _ _ (itemS _)).1
theorem newC_eq {D S : Int} (h : 1 ≤ D ∧ D ≤ 8 ∧ 1 ≤ S ∧ S ≤ 64) (x : Int) : newC D S x = ⟨D, S, x, List.replicate (D * S).toNat 0, false⟩ := by
  unfold newC
  rw [if_pos ((shpB_iff D S).2 h)]
theorem newC_ok {D S : Int} (h : 1 ≤ D ∧ D ≤ 8 ∧ 1 ≤ S ∧ S ≤ 64) (x : Int) : Alike (newC D S x) (newC D S x) := by
  have hm : 0 ≤ D * S := Int.mul_nonneg (by omega) (by omega)
  rw [newC_eq h]
  refine ⟨rfl, rfl, rfl, cmE_mk h (by dsimp only; rw [List.length_replicate]; omega) (fun m hm => ?_)⟩
  rw [List.eq_of_mem_replicate hm]
  decide
/-- What made gives is a sketch. -/
def mdD (a : Int) : Int := 1 + a % 4
def mdS (b : Int) : Int := 1 + b % 8
theorem md_bd (a b : Int) : 1 ≤ 1 + a % 4 ∧ 1 + a % 4 ≤ 8 ∧ 1 ≤ 1 + b % 8 ∧ 1 + b % 8 ≤ 64 := by omega
theorem up_alike (a b x : Int) (l : List Int) : Alike (newC (1 + a % 4) (1 + b % 8) x) (mdUp (newC (1 + a % 4) (1 + b % 8) x) l) := (newC_ok (md_bd a b) x).up l
theorem up_ok (a b x : Int) (l : List Int) (x0 : 0 ≤ x) (x1 : x ≤ 18446744073709551615) :
    WfC (mdUp (newC (1 + a % 4) (1 + b % 8) x) l) ∧ 0 < (mdUp (newC (1 + a % 4) (1 + b % 8) x) l).L.length ∧ (mdUp (newC (1 + a % 4) (1 + b % 8) x) l).L.length ≤ 1000 := by
  refine ⟨(WfC.new (by omega) (by omega) (by omega) (by omega) x0 x1).up l, ?_⟩
  have h := (up_alike a b x l).2.2.2
  obtain ⟨⟨h1, h2, h3, h4⟩, h5, _⟩ := cmE_ok h
  generalize (newC (1 + a % 4) (1 + b % 8) x).D = D at *
  generalize (newC (1 + a % 4) (1 + b % 8) x).S = S at *
  have m1 : 1 * 1 ≤ D * S := Int.mul_le_mul h1 h3 (by omega) (by omega)
  have m2 : D * S ≤ 8 * 64 := Int.mul_le_mul h2 h4 (by omega) (by omega)
  omega
/-- Cells and flag as the true sums T, cut off. -/
def Tr (L : List Int) (s : Bool) (T : Nat → Int) : Prop := (∀ i, 0 ≤ T i) ∧ (∀ i, i < L.length → L.getD i 0 = min (T i) 4294967295) ∧ (s = true ↔ ∃ i, i < L.length ∧ 4294967295 < T i)
theorem Tr.one {L M : List Int} {s t : Bool} {T : Nat → Int} (h : Tr L s T) (k : Tr M t T) (hl : L.length = M.length) : L = M ∧ s = t := by
  refine ⟨?_, ?_⟩
  · apply List.ext_getElem? 
    intro i
    by_cases hi : i < L.length
    · have e1 := h.2.1 i hi
      have e2 := k.2.1 i (by omega)
      rw [← e2] at e1
      simp only [List.getD, List.getElem?_eq_getElem hi, List.getElem?_eq_getElem (show i < M.length by omega), Option.getD_some] at e1
      rw [List.getElem?_eq_getElem hi, List.getElem?_eq_getElem (show i < M.length by omega), e1]
    · rw [List.getElem?_eq_none (by omega), List.getElem?_eq_none (by omega)]
  · have e : s = true ↔ t = true := by rw [h.2.2, k.2.2, hl]
    cases s <;> cases t <;> simp_all
theorem sumT_cut {a b : Int} (ha : 0 ≤ a) (hb : 0 ≤ b) : sumT (min a 4294967295) b = min (a + b) 4294967295 ∧ (sumF (min a 4294967295) b = true ↔ 4294967295 < min a 4294967295 + b) := by
  unfold sumT sumF satN satF nat0
  constructor
  · split <;> omega
  · simp only [decide_eq_true_eq]
    omega
/-- One cell raised by n. -/
def bump (T : Nat → Int) (j : Nat) (n : Int) (i : Nat) : Int := if i = j then T i + n else T i
theorem Tr.set {L : List Int} {s : Bool} {T : Nat → Int} (h : Tr L s T) {j : Nat} (hj : j < L.length) {n : Int} (hn : 0 ≤ n) : Tr (L.set j (sumT (L.getD j 0) n)) (s || sumF (L.getD j 0) n) (bump T j n) := by
  obtain ⟨h1, h2, h3⟩ := h
  have hc := sumT_cut (h1 j) hn
  rw [← h2 j hj] at hc
  refine ⟨fun i => ?_, fun i hi => ?_, ?_⟩
  · unfold bump
    have := h1 i
    split <;> omega
  · rw [List.length_set] at hi
    unfold bump
    by_cases e : i = j
    · subst e
      rw [if_pos rfl]
      simp only [List.getD, List.getElem?_set_self hi, Option.getD_some] at hc ⊢
      exact hc.1
    · rw [if_neg e, ← h2 i hi]
      simp [List.getD, List.getElem?_set, Ne.symm e]
  · rw [List.length_set, Bool.or_eq_true, h3, hc.2, h2 j hj]
    unfold bump
    constructor
    · rintro (⟨i, hi, hT⟩ | hT)
      · refine ⟨i, hi, ?_⟩
        split <;> omega
      · exact ⟨j, hj, by rw [if_pos rfl]; omega⟩
    · rintro ⟨i, hi, hT⟩
      by_cases e : i = j
      · subst e
        rw [if_pos rfl] at hT
        by_cases h5 : 4294967295 < T i
        · exact .inl ⟨i, hi, h5⟩
        · exact .inr (by omega)
      · rw [if_neg e] at hT
        exact .inl ⟨i, hi, hT⟩
/-- The true sums behind k rows of an insertion. -/
def upT (x S : Int) (k : ByteArray) (n : Int) (T : Nat → Int) : Nat → Nat → Int
  | 0 => T
  | r + 1 => bump (upT x S k n T r) (celI x S k r) n
theorem Tr.rows {L : List Int} {s : Bool} {T : Nat → Int} (h : Tr L s T) {x D S : Int} {k : ByteArray} {n : Int} (hn : 0 ≤ n) (hS : 1 ≤ S) (hl : (L.length : Int) = D * S) : ∀ r : Nat, (r : Int) ≤ D → Tr (insUp x S k n L s r).1 (insUp x S k n L s r).2 (upT x S k n T r)
  | 0, _ => h
  | r + 1, hr => by
    have ih := Tr.rows (x := x) (k := k) h hn hS hl r (by omega)
    exact ih.set (by rw [insUp_len]; exact celI_lt hS (by omega) hl) hn
/-- What a vector of sums is raised by. -/
theorem upT_add (x S : Int) (k : ByteArray) (n : Int) (T U : Nat → Int) : ∀ r i, upT x S k n (fun i => T i + U i) r i = T i + upT x S k n U r i
  | 0, i => rfl
  | r + 1, i => by
    unfold upT bump
    rw [upT_add x S k n T U r i]
    split <;> omega
/-- The true sums of items. -/
def sums7 (D S x : Int) (T : Nat → Int) (l : List Int) : Nat → Int := l.foldl (fun T n => upT x S (keyS (n % 65536)) (wtS (n % 65536)) T D.toNat) T
theorem sums7_add (D S x : Int) (T : Nat → Int) (l : List Int) : ∀ U : Nat → Int, sums7 D S x (fun i => T i + U i) l = fun i => T i + sums7 D S x U l i := by
  unfold sums7
  induction l with
  | nil => intro U; rfl
  | cons n l ih =>
    intro U
    rw [List.foldl_cons, List.foldl_cons, ← ih]
    congr 1
    funext i
    exact upT_add _ _ _ _ _ _ _ _
theorem Tr.ins {c d : CM} (h : Alike c d) {T : Nat → Int} (t : Tr d.L d.s T) (k : ByteArray) {n : Int} (hn : 0 ≤ n) (hi : itemE (byt k) n = 0) : Tr (cmIns d k n).L (cmIns d k n).s (upT c.x c.S k n T c.D.toNat) := by
  obtain ⟨h1, h2, h3, h4⟩ := h
  rw [(ins_ok (c := d) (by rw [h1, h2]; exact h4) k n hi).1]
  dsimp only
  rw [h1, h2, h3]
  obtain ⟨o, e, _⟩ := cmE_ok h4
  exact t.rows hn (by omega) e _ (by omega)
theorem Tr.up {c d : CM} (h : Alike c d) {T : Nat → Int} (t : Tr d.L d.s T) (l : List Int) : Tr (mdUp d l).L (mdUp d l).s (sums7 c.D c.S c.x T l) := by
  unfold mdUp sums7
  induction l generalizing d T with
  | nil => exact t
  | cons n l ih => exact ih (h.ins _ _ (itemS _)).1 (Tr.ins h t _ (by have := wtS_bd (n % 65536); omega) (itemS _))
theorem Tr.new {D S : Int} (h : 1 ≤ D ∧ D ≤ 8 ∧ 1 ≤ S ∧ S ≤ 64) (x : Int) : Tr (newC D S x).L (newC D S x).s (fun _ => 0) := by
  rw [newC_eq h]
  refine ⟨fun _ => Int.le_refl _, fun i hi => ?_, ?_⟩
  · dsimp only at hi ⊢
    rw [List.length_replicate] at hi
    simp [List.getD, hi]
    decide
  · simp
theorem mer_ok {c d e : CM} (h : Alike c d) (k : Alike c e) : cmMerE d e = 0 ∧ cmMer d e = ⟨c.D, c.S, c.x, merL d.L e.L e.L.length, merF d.L e.L (d.s || e.s) e.L.length⟩ := by
  obtain ⟨h1, h2, h3, h4⟩ := h
  obtain ⟨k1, k2, k3, k4⟩ := k
  have e0 : cmMerE d e = 0 := by
    unfold cmMerE
    rw [h1, h2, k1, k2, if_neg (by simp [h4]), if_neg (by simp [k4]), h3, k3, if_neg (by simp)]
  refine ⟨e0, ?_⟩
  unfold cmMer
  rw [if_neg (by simp [e0]), h1, h2, h3]
theorem merL_bd (A B : List Int) (k : Nat) : ∀ m ∈ merL A B k, 0 ≤ m ∧ m ≤ 4294967295 := by
  intro m hm
  unfold merL at hm
  obtain ⟨j, _, rfl⟩ := List.mem_map.1 hm
  exact sumT_bd _ _
theorem Alike.mer {c d e : CM} (h : Alike c d) (k : Alike c e) : Alike c (cmMer d e) := by
  rw [(mer_ok h k).2]
  obtain ⟨o, l, _⟩ := cmE_ok k.2.2.2
  exact ⟨rfl, rfl, rfl, cmE_mk o (by rw [merL_len]; exact l) (merL_bd _ _ _)⟩
theorem merF_iff (A B : List Int) (s : Bool) : ∀ k, merF A B s k = true ↔ (s = true ∨ ∃ i, i < k ∧ sumF (A.getD i 0) (B.getD i 0) = true)
  | 0 => by simp [merF]
  | k + 1 => by
    rw [merF, Bool.or_eq_true, merF_iff A B s k]
    constructor
    · rintro ((h | ⟨i, hi, h⟩) | h)
      · exact .inl h
      · exact .inr ⟨i, by omega, h⟩
      · exact .inr ⟨k, by omega, h⟩
    · rintro (h | ⟨i, hi, h⟩)
      · exact .inl (.inl h)
      · by_cases e : i = k
        · subst e; exact .inr h
        · exact .inl (.inr ⟨i, by omega, h⟩)
theorem sum_cut2 {a b : Int} (ha : 0 ≤ a) (hb : 0 ≤ b) : sumT (min a 4294967295) (min b 4294967295) = min (a + b) 4294967295 ∧ (sumF (min a 4294967295) (min b 4294967295) = true ↔ 4294967295 < min a 4294967295 + min b 4294967295) := by
  have h := sumT_cut ha (show 0 ≤ min b 4294967295 by omega)
  exact ⟨by rw [h.1]; omega, h.2⟩
theorem Tr.mer {c d e : CM} (h : Alike c d) (k : Alike c e) {T U : Nat → Int} (t : Tr d.L d.s T) (u : Tr e.L e.s U) : Tr (cmMer d e).L (cmMer d e).s (fun i => T i + U i) := by
  rw [(mer_ok h k).2]
  dsimp only
  have hl : d.L.length = e.L.length := by
    have a := (cmE_ok h.2.2.2).2.1
    have b := (cmE_ok k.2.2.2).2.1
    omega
  obtain ⟨t1, t2, t3⟩ := t
  obtain ⟨u1, u2, u3⟩ := u
  refine ⟨fun i => by have := t1 i; have := u1 i; show 0 ≤ T i + U i; omega, fun i hi => ?_, ?_⟩
  · rw [merL_len] at hi
    have e1 : (merL d.L e.L e.L.length).getD i 0 = sumT (d.L.getD i 0) (e.L.getD i 0) := by
      unfold merL
      simp [List.getD, hi]
    rw [e1, t2 i (by omega), u2 i hi]
    exact (sum_cut2 (t1 i) (u1 i)).1
  · rw [merL_len, merF_iff, Bool.or_eq_true, t3, u3]
    constructor
    · rintro ((⟨i, hi, h⟩ | ⟨i, hi, h⟩) | ⟨i, hi, h⟩)
      · exact ⟨i, by omega, by have := u1 i; show 4294967295 < T i + U i; omega⟩
      · exact ⟨i, hi, by have := t1 i; show 4294967295 < T i + U i; omega⟩
      · rw [t2 i (by omega), u2 i hi] at h
        have := (sum_cut2 (t1 i) (u1 i)).2.1 h
        exact ⟨i, hi, by show 4294967295 < T i + U i; omega⟩
    · rintro ⟨i, hi, h⟩
      replace h : 4294967295 < T i + U i := h
      by_cases e1 : 4294967295 < T i
      · exact .inl (.inl ⟨i, by omega, e1⟩)
      · by_cases e2 : 4294967295 < U i
        · exact .inl (.inr ⟨i, hi, e2⟩)
        · refine .inr ⟨i, hi, ?_⟩
          rw [t2 i (by omega), u2 i hi]
          exact (sum_cut2 (t1 i) (u1 i)).2.2 (by omega)
/-- Sketches of one shape and of the same sums are one. -/
theorem alike_one {c d e : CM} (h : Alike c d) (k : Alike c e) {T : Nat → Int} (t : Tr d.L d.s T) (u : Tr e.L e.s T) : d = e := by
  have hl : d.L.length = e.L.length := by
    have a := (cmE_ok h.2.2.2).2.1
    have b := (cmE_ok k.2.2.2).2.1
    omega
  obtain ⟨e1, e2⟩ := t.one u hl
  obtain ⟨h1, h2, h3, _⟩ := h
  obtain ⟨k1, k2, k3, _⟩ := k
  cases d
  cases e
  simp_all
end Go.Proofs.Ytlbbmnjhohfbkaa
