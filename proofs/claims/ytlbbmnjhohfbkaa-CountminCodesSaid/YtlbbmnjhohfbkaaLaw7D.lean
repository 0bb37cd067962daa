/- RdIn, CmPure, WireFacts, CmBack, CmKnown, Law7C: in one text. -/
import Derived.Test.YtlbbmnjhohfbkaaByteRow
import Derived.Test.YtlbbmnjhohfbkaaArgs
import Derived.Test.YtlbbmnjhohfbkaaOffI
import Derived.Test.YtlbbmnjhohfbkaaWire
import Derived.Test.YtlbbmnjhohfbkaaWireRef2
import Derived.Test.YtlbbmnjhohfbkaaCmDecN
import Derived.Test.YtlbbmnjhohfbkaaCmEnc
import Derived.Test.YtlbbmnjhohfbkaaCmIns
import Derived.Test.YtlbbmnjhohfbkaaCmEst
import Derived.Test.YtlbbmnjhohfbkaaMade7
import Derived.Test.YtlbbmnjhohfbkaaSpoil7
import Derived.Test.YtlbbmnjhohfbkaaCmSame
import Derived.Test.YtlbbmnjhohfbkaaRCmEnc
import Derived.Test.YtlbbmnjhohfbkaaCmDec
import Derived.Test.YtlbbmnjhohfbkaaRCmDec
import Derived.Test.YtlbbmnjhohfbkaaSkAt
namespace Go.Proofs.Ytlbbmnjhohfbkaa
open Go.RowKit
set_option linter.unusedVariables false
set_option linter.unusedSimpArgs false
/-- A slice of bytes that came in can be read. -/
theorem inRow_rd {W : World} {a : Option Addr} {n cap : Nat} {z : List Int} (h : InRow .u8 W a n cap z) : Rd (z.take n) (.slice a n cap) W := by
  obtain ⟨h1, h2, h3, h4, h5⟩ := h
  have hl : (z.take n).length = n := by simp; omega
  have hy : Byt (z.take n) := fun x hx => by
    have := h4 x (List.mem_of_mem_take hx)
    simpa [Lit.wf, IntKind.min, IntKind.max, IntKind.signed, IntKind.bits] using this
  refine ⟨hy, a, cap, by rw [hl], by omega, h2, fun hp => ?_⟩
  obtain ⟨b, off, rfl, hb, hc⟩ := h5 (by omega)
  refine ⟨b, off, rfl, hb, fun j hj => ?_⟩
  rw [hc j (by omega)]
  simp [List.getD, List.getElem?_take, show j < n by omega]
theorem wf_bd8 {n : Int} (h : (Lit.int .u8 n).wf = true) : 0 ≤ n ∧ n ≤ 255 := by
  simpa [Lit.wf, IntKind.min, IntKind.max, IntKind.signed, IntKind.bits] using h
theorem insUp_bd {x S : Int} {k : ByteArray} {n : Int} {L : List Int} {s : Bool} (h : ∀ m ∈ L, 0 ≤ m ∧ m ≤ 4294967295) : ∀ r, ∀ m ∈ (insUp x S k n L s r).1, 0 ≤ m ∧ m ≤ 4294967295
  | 0 => h
  | r + 1 => fun m hm => by
    rw [insUp] at hm
    rcases List.mem_or_eq_of_mem_set hm with hm | rfl
    · exact insUp_bd h r m hm
    · exact sumT_bd _ _
theorem ins_ok {c : CM} (h : cmE c.D c.S c.L = 0) (k : ByteArray) (n : Int) (hi : itemE (byt k) n = 0) :
    cmIns c k n = ⟨c.D, c.S, c.x, (insUp c.x c.S k n c.L c.s c.D.toNat).1, (insUp c.x c.S k n c.L c.s c.D.toNat).2⟩ ∧ cmE c.D c.S (insUp c.x c.S k n c.L c.s c.D.toNat).1 = 0 ∧ cmInsE c k n = 0 := by
  obtain ⟨h1, h2, h3⟩ := cmE_ok h
  refine ⟨?_, cmE_mk h1 (by rw [insUp_len]; exact h2) (insUp_bd h3 _), ?_⟩
  · unfold cmIns
    rw [if_neg (by simp [h]), if_neg (by simp [hi])]
  · unfold cmInsE
    rw [if_neg (by simp [h]), hi]
/-- d is a sketch of c's shape and seed. -/
def Alike (c d : CM) : Prop := d.D = c.D ∧ d.S = c.S ∧ d.x = c.x ∧ cmE c.D c.S d.L = 0
theorem Alike.ins {c d : CM} (h : Alike c d) (k : ByteArray) (n : Int) (hi : itemE (byt k) n = 0) : Alike c (cmIns d k n) ∧ cmInsE d k n = 0 := by
  obtain ⟨h1, h2, h3, h4⟩ := h
  obtain ⟨e1, e2, e3⟩ := ins_ok (c := d) (by rw [h1, h2]; exact h4) k n hi
  rw [e1]
  rw [h1, h2] at e2
  exact ⟨⟨h1, h2, h3, by rw [h1, h2]; exact e2⟩, e3⟩
theorem Alike.up {c d : CM} (h : Alike c d) (l : List Int) : Alike c (mdUp d l) := by
  unfold mdUp
  induction l generalizing d with
  | nil => exact h
  | cons n l ih => exact ih (h.ins _ _ (itemS _)).1
theorem newC_eq {D S : Int} (h : 1 ≤ D ∧ D ≤ 8 ∧ 1 ≤ S ∧ S ≤ 64) (x : Int) : newC D S x = ⟨D, S, x, List.replicate (D * S).toNat 0, false⟩ := by
  unfold newC
  rw [if_pos ((shpB_iff D S).2 h)]
theorem newC_ok {D S : Int} (h : 1 ≤ D ∧ D ≤ 8 ∧ 1 ≤ S ∧ S ≤ 64) (x : Int) : Alike (newC D S x) (newC D S x) := by
  have hm : 0 ≤ D * S := Int.mul_nonneg (by omega) (by omega)
  rw [newC_eq h]
  refine ⟨rfl, rfl, rfl, cmE_mk h (by dsimp only; rw [List.length_replicate]; omega) (fun m hm => ?_)⟩
  rw [List.eq_of_mem_replicate hm]
  decide
/-- What made gives is a sketch. -/
def mdD (a : Int) : Int := 1 + a % 4
def mdS (b : Int) : Int := 1 + b % 8
theorem md_bd (a b : Int) : 1 ≤ 1 + a % 4 ∧ 1 + a % 4 ≤ 8 ∧ 1 ≤ 1 + b % 8 ∧ 1 + b % 8 ≤ 64 := by omega
theorem up_alike (a b x : Int) (l : List Int) : Alike (newC (1 + a % 4) (1 + b % 8) x) (mdUp (newC (1 + a % 4) (1 + b % 8) x) l) := (newC_ok (md_bd a b) x).up l
theorem up_ok (a b x : Int) (l : List Int) (x0 : 0 ≤ x) (x1 : x ≤ 18446744073709551615) :
    WfC (mdUp (newC (1 + a % 4) (1 + b % 8) x) l) ∧ 0 < (mdUp (newC (1 + a % 4) (1 + b % 8) x) l).L.length ∧ (mdUp (newC (1 + a % 4) (1 + b % 8) x) l).L.length ≤ 1000 := by
  refine ⟨(WfC.new (by omega) (by omega) (by omega) (by omega) x0 x1).up l, ?_⟩
  have h := (up_alike a b x l).2.2.2
  obtain ⟨⟨h1, h2, h3, h4⟩, h5, _⟩ := cmE_ok h
  generalize (newC (1 + a % 4) (1 + b % 8) x).D = D at *
  generalize (newC (1 + a % 4) (1 + b % 8) x).S = S at *
  have m1 : 1 * 1 ≤ D * S := Int.mul_le_mul h1 h3 (by omega) (by omega)
  have m2 : D * S ≤ 8 * 64 := Int.mul_le_mul h2 h4 (by omega) (by omega)
  omega
/-- Cells and flag as the true sums T, cut off. -/
def Tr (L : List Int) (s : Bool) (T : Nat → Int) : Prop := (∀ i, 0 ≤ T i) ∧ (∀ i, i < L.length → L.getD i 0 = min (T i) 4294967295) ∧ (s = true ↔ ∃ i, i < L.length ∧ 4294967295 < T i)
theorem Tr.one {L M : List Int} {s t : Bool} {T : Nat → Int} (h : Tr L s T) (k : Tr M t T) (hl : L.length = M.length) : L = M ∧ s = t := by
  refine ⟨?_, ?_⟩
  · apply List.ext_getElem? 
    intro i
    by_cases hi : i < L.length
    · have e1 := h.2.1 i hi
      have e2 := k.2.1 i (by omega)
      rw [← e2] at e1
      simp only [List.getD, List.getElem?_eq_getElem hi, List.getElem?_eq_getElem (show i < M.length by omega), Option.getD_some] at e1
      rw [List.getElem?_eq_getElem hi, List.getElem?_eq_getElem (show i < M.length by omega), e1]
    · rw [List.getElem?_eq_none (by omega), List.getElem?_eq_none (by omega)]
  · have e : s = true ↔ t = true := by rw [h.2.2, k.2.2, hl]
    cases s <;> cases t <;> simp_all
theorem sumT_cut {a b : Int} (ha : 0 ≤ a) (hb : 0 ≤ b) : sumT (min a 4294967295) b = min (a + b) 4294967295 ∧ (sumF (min a 4294967295) b = true ↔ 4294967295 < min a 4294967295 + b) := by
  unfold sumT sumF satN satF nat0
  constructor
  · split <;> omega
  · simp only [decide_eq_true_eq]
    omega
/-- One cell raised by n. -/
def bump (T : Nat → Int) (j : Nat) (n : Int) (i : Nat) : Int := if i = j then T i + n else T i
theorem Tr.set {L : List Int} {s : Bool} {T : Nat → Int} (h : Tr L s T) {j : Nat} (hj : j < L.length) {n : Int} (hn : 0 ≤ n) : Tr (L.set j (sumT (L.getD j 0) n)) (s || sumF (L.getD j 0) n) (bump T j n) := by
  obtain ⟨h1, h2, h3⟩ := h
  have hc := sumT_cut (h1 j) hn
  rw [← h2 j hj] at hc
  refine ⟨fun i => ?_, fun i hi => ?_, ?_⟩
  · unfold bump
    have := h1 i
    split <;> omega
  · rw [List.length_set] at hi
    unfold bump
    by_cases e : i = j
    · subst e
      rw [if_pos rfl]
      simp only [List.getD, List.getElem?_set_self hi, Option.getD_some] at hc ⊢
      exact hc.1
    · rw [if_neg e, ← h2 i hi]
      simp [List.getD, List.getElem?_set, Ne.symm e]
  · rw [List.length_set, Bool.or_eq_true, h3, hc.2, h2 j hj]
    unfold bump
    constructor
    · rintro (⟨i, hi, hT⟩ | hT)
      · refine ⟨i, hi, ?_⟩
        split <;> omega
      · exact ⟨j, hj, by rw [if_pos rfl]; omega⟩
    · rintro ⟨i, hi, hT⟩
      by_cases e : i = j
      · subst e
        rw [if_pos rfl] at hT
        by_cases h5 : 4294967295 < T i
        · exact .inl ⟨i, hi, h5⟩
        · exact .inr (by omega)
      · rw [if_neg e] at hT
        exact .inl ⟨i, hi, hT⟩
/-- The true sums behind k rows of an insertion. -/
def upT (x S : Int) (k : ByteArray) (n : Int) (T : Nat → Int) : Nat → Nat → Int
  | 0 => T
  | r + 1 => bump (upT x S k n T r) (celI x S k r) n
theorem Tr.rows {L : List Int} {s : Bool} {T : Nat → Int} (h : Tr L s T) {x D S : Int} {k : ByteArray} {n : Int} (hn : 0 ≤ n) (hS : 1 ≤ S) (hl : (L.length : Int) = D * S) : ∀ r : Nat, (r : Int) ≤ D → Tr (insUp x S k n L s r).1 (insUp x S k n L s r).2 (upT x S k n T r)
  | 0, _ => h
  | r + 1, hr => by
    have ih := Tr.rows (x := x) (k := k) h hn hS hl r (by omega)
    exact ih.set (by rw [insUp_len]; exact celI_lt hS (by omega) hl) hn
/-- What a vector of sums is raised by. -/
theorem upT_add (x S : Int) (k : ByteArray) (n : Int) (T U : Nat → Int) : ∀ r i, upT x S k n (fun i => T i + U i) r i = T i + upT x S k n U r i
  | 0, i => rfl
  | r + 1, i => by
    unfold upT bump
    rw [upT_add x S k n T U r i]
    split <;> omega
/-- The true sums of items. -/
def sums7 (D S x : Int) (T : Nat → Int) (l : List Int) : Nat → Int := l.foldl (fun T n => upT x S (keyS (n % 65536)) (wtS (n % 65536)) T D.toNat) T
theorem sums7_add (D S x : Int) (T : Nat → Int) (l : List Int) : ∀ U : Nat → Int, sums7 D S x (fun i => T i + U i) l = fun i => T i + sums7 D S x U l i := by
  unfold sums7
  induction l with
  | nil => intro U; rfl
  | cons n l ih =>
    intro U
    rw [List.foldl_cons, List.foldl_cons, ← ih]
    congr 1
    funext i
    exact upT_add _ _ _ _ _ _ _ _
theorem Tr.ins {c d : CM} (h : Alike c d) {T : Nat → Int} (t : Tr d.L d.s T) (k : ByteArray) {n : Int} (hn : 0 ≤ n) (hi : itemE (byt k) n = 0) : Tr (cmIns d k n).L (cmIns d k n).s (upT c.x c.S k n T c.D.toNat) := by
  obtain ⟨h1, h2, h3, h4⟩ := h
  rw [(ins_ok (c := d) (by rw [h1, h2]; exact h4) k n hi).1]
  dsimp only
  rw [h1, h2, h3]
  obtain ⟨o, e, _⟩ := cmE_ok h4
  exact t.rows hn (by omega) e _ (by omega)
theorem Tr.up {c d : CM} (h : Alike c d) {T : Nat → Int} (t : Tr d.L d.s T) (l : List Int) : Tr (mdUp d l).L (mdUp d l).s (sums7 c.D c.S c.x T l) := by
  unfold mdUp sums7
  induction l generalizing d T with
  | nil => exact t
  | cons n l ih => exact ih (h.ins _ _ (itemS _)).1 (Tr.ins h t _ (by have := wtS_bd (n % 65536); omega) (itemS _))
theorem Tr.new {D S : Int} (h : 1 ≤ D ∧ D ≤ 8 ∧ 1 ≤ S ∧ S ≤ 64) (x : Int) : Tr (newC D S x).L (newC D S x).s (fun _ => 0) := by
  rw [newC_eq h]
  refine ⟨fun _ => Int.le_refl _, fun i hi => ?_, ?_⟩
  · dsimp only at hi ⊢
    rw [List.length_replicate] at hi
    simp [List.getD, hi]
    decide
  · simp
theorem mer_ok {c d e : CM} (h : Alike c d) (k : Alike c e) : cmMerE d e = 0 ∧ cmMer d e = ⟨c.D, c.S, c.x, merL d.L e.L e.L.length, merF d.L e.L (d.s || e.s) e.L.length⟩ := by
  obtain ⟨h1, h2, h3, h4⟩ := h
  obtain ⟨k1, k2, k3, k4⟩ := k
  have e0 : cmMerE d e = 0 := by
    unfold cmMerE
    rw [h1, h2, k1, k2, if_neg (by simp [h4]), if_neg (by simp [k4]), h3, k3, if_neg (by simp)]
  refine ⟨e0, ?_⟩
  unfold cmMer
  rw [if_neg (by simp [e0]), h1, h2, h3]
theorem merL_bd (A B : List Int) (k : Nat) : ∀ m ∈ merL A B k, 0 ≤ m ∧ m ≤ 4294967295 := by
  intro m hm
  unfold merL at hm
  obtain ⟨j, _, rfl⟩ := List.mem_map.1 hm
  exact sumT_bd _ _
theorem Alike.mer {c d e : CM} (h : Alike c d) (k : Alike c e) : Alike c (cmMer d e) := by
  rw [(mer_ok h k).2]
  obtain ⟨o, l, _⟩ := cmE_ok k.2.2.2
  exact ⟨rfl, rfl, rfl, cmE_mk o (by rw [merL_len]; exact l) (merL_bd _ _ _)⟩
theorem merF_iff (A B : List Int) (s : Bool) : ∀ k, merF A B s k = true ↔ (s = true ∨ ∃ i, i < k ∧ sumF (A.getD i 0) (B.getD i 0) = true)
  | 0 => by simp [merF]
  | k + 1 => by
    rw [merF, Bool.or_eq_true, merF_iff A B s k]
    constructor
    · rintro ((h | ⟨i, hi, h⟩) | h)
      · exact .inl h
      · exact .inr ⟨i, by omega, h⟩
      · exact .inr ⟨k, by omega, h⟩
    · rintro (h | ⟨i, hi, h⟩)
      · exact .inl (.inl h)
      · by_cases e : i = k
        · subst e; exact .inr h
        · exact .inl (.inr ⟨i, by omega, h⟩)
theorem sum_cut2 {a b : Int} (ha : 0 ≤ a) (hb : 0 ≤ b) : sumT (min a 4294967295) (min b 4294967295) = min (a + b) 4294967295 ∧ (sumF (min a 4294967295) (min b 4294967295) = true ↔ 4294967295 < min a 4294967295 + min b 4294967295) := by
  have h := sumT_cut ha (show 0 ≤ min b 4294967295 by omega)
  exact ⟨by rw [h.1]; omega, h.2⟩
theorem Tr.mer {c d e : CM} (h : Alike c d) (k : Alike c e) {T U : Nat → Int} (t : Tr d.L d.s T) (u : Tr e.L e.s U) : Tr (cmMer d e).L (cmMer d e).s (fun i => T i + U i) := by
  rw [(mer_ok h k).2]
  dsimp only
  have hl : d.L.length = e.L.length := by
    have a := (cmE_ok h.2.2.2).2.1
    have b := (cmE_ok k.2.2.2).2.1
    omega
  obtain ⟨t1, t2, t3⟩ := t
  obtain ⟨u1, u2, u3⟩ := u
  refine ⟨fun i => by have := t1 i; have := u1 i; show 0 ≤ T i + U i; omega, fun i hi => ?_, ?_⟩
  · rw [merL_len] at hi
    have e1 : (merL d.L e.L e.L.length).getD i 0 = sumT (d.L.getD i 0) (e.L.getD i 0) := by
      unfold merL
      simp [List.getD, hi]
    rw [e1, t2 i (by omega), u2 i hi]
    exact (sum_cut2 (t1 i) (u1 i)).1
  · rw [merL_len, merF_iff, Bool.or_eq_true, t3, u3]
    constructor
    · rintro ((⟨i, hi, h⟩ | ⟨i, hi, h⟩) | ⟨i, hi, h⟩)
      · exact ⟨i, by omega, by have := u1 i; show 4294967295 < T i + U i; omega⟩
      · exact ⟨i, hi, by have := t1 i; show 4294967295 < T i + U i; omega⟩
      · rw [t2 i (by omega), u2 i hi] at h
        have := (sum_cut2 (t1 i) (u1 i)).2.1 h
        exact ⟨i, hi, by show 4294967295 < T i + U i; omega⟩
    · rintro ⟨i, hi, h⟩
      replace h : 4294967295 < T i + U i := h
      by_cases e1 : 4294967295 < T i
      · exact .inl (.inl ⟨i, by omega, e1⟩)
      · by_cases e2 : 4294967295 < U i
        · exact .inl (.inr ⟨i, hi, e2⟩)
        · refine .inr ⟨i, hi, ?_⟩
          rw [t2 i (by omega), u2 i hi]
          exact (sum_cut2 (t1 i) (u1 i)).2.2 (by omega)
/-- Sketches of one shape and of the same sums are one. -/
theorem alike_one {c d e : CM} (h : Alike c d) (k : Alike c e) {T : Nat → Int} (t : Tr d.L d.s T) (u : Tr e.L e.s T) : d = e := by
  have hl : d.L.length = e.L.length := by
    have a := (cmE_ok h.2.2.2).2.1
    have b := (cmE_ok k.2.2.2).2.1
    omega
  obtain ⟨e1, e2⟩ := t.one u hl
  obtain ⟨h1, h2, h3, _⟩ := h
  obtain ⟨k1, k2, k3, _⟩ := k
  cases d
  cases e
  simp_all
theorem val_cons (c : Int) : ∀ L, val (c :: L) = c * ((256 ^ L.length : Nat) : Int) + val L := by
  intro L
  induction L using snoc_ind with
  | h0 => simp [val]
  | h1 L d ih =>
    have e : c :: (L ++ [d]) = (c :: L) ++ [d] := rfl
    rw [e, val_snoc, val_snoc, ih, List.length_append, List.length_singleton, Nat.pow_succ]
    generalize 256 ^ L.length = p
    have e2 : ((p * 256 : Nat) : Int) = (p : Int) * 256 := by omega
    rw [e2, Int.add_mul, Int.mul_assoc, Int.add_assoc]
theorem take_one_drop {L : List Int} (h : 1 < L.length) : ∃ R, L.drop 1 = L.getD 1 0 :: R := by
  refine ⟨L.drop 2, ?_⟩
  rw [List.drop_eq_getElem_cons h]
  simp [List.getD, h]
/-- What is read as a number is its encoding. -/
theorem decU_once {L : List Int} (hy : Byt L) (h : (decU L).2.2 = 0) : uintB (decU L).1.toNat = L.take (decU L).2.1.toNat := by
  have hc := hy.at_ 0
  unfold decU at h ⊢
  by_cases h0 : L.length = 0
  · rw [if_pos h0] at h; simp at h
  · rw [if_neg h0] at h ⊢
    have hl : L.take 1 = [L.getD 0 0] := by
      have := take_snoc L 0 (by omega)
      simpa using this
    by_cases h1 : L.getD 0 0 < 248
    · rw [if_pos h1]
      show uintB (L.getD 0 0).toNat = L.take 1
      rw [hl]
      unfold uintB
      rw [if_pos (by omega)]
      congr 1
      omega
    · rw [if_neg h1] at h ⊢
      by_cases h2 : (L.length : Int) < L.getD 0 0 - 246
      · rw [if_pos h2] at h; simp at h
      · rw [if_neg h2] at h ⊢
        obtain ⟨k, hk⟩ : ∃ k : Nat, L.getD 0 0 - 246 = ((k + 2 : Nat) : Int) := ⟨(L.getD 0 0 - 248).toNat, by omega⟩
        rw [hk] at h ⊢
        rw [Int.toNat_natCast] at h ⊢
        obtain ⟨R, hR⟩ := take_one_drop (L := L.take (k + 2)) (by simp; omega)
        have ht : (L.take (k + 2)).getD 1 0 = L.getD 1 0 := by simp [List.getD, List.getElem?_take]
        have hRl : R.length = k := by
          have := congrArg List.length hR
          simp at this
          omega
        rw [ht] at hR
        have hyD : Byt ((L.take (k + 2)).drop 1) := (hy.take _).drop 1
        split at h
        · simp at h
        · rename_i h3
          rw [if_neg h3]
          have hb := val_bd _ hyD
          have hlen : ((L.take (k + 2)).drop 1).length = k + 1 := by simp; omega
          rw [hlen] at hb
          have hv := val_cons (L.getD 1 0) R
          have hyR : Byt R := fun n hn => hyD n (by rw [hR]; exact List.mem_cons_of_mem _ hn)
          have hRb := val_bd R hyR
          have hc1 := hy.at_ 1
          rw [← hR, hRl] at hv
          have hbv := be_val _ hyD
          rw [hlen] at hbv
          have hlow : ((256 ^ k : Nat) : Int) ≤ val ((L.take (k + 2)).drop 1) := by
            have hp : (0 : Int) ≤ ((256 ^ k : Nat) : Int) := by omega
            have : 1 * ((256 ^ k : Nat) : Int) ≤ L.getD 1 0 * ((256 ^ k : Nat) : Int) := Int.mul_le_mul_of_nonneg_right (by omega) hp
            omega
          show uintB (val ((L.take (k + 2)).drop 1)).toNat = L.take (k + 2)
          have e1 : L.take (k + 2) = L.getD 0 0 :: (L.take (k + 2)).drop 1 := by
            have : L.take (k + 2) = (L.take (k + 2)).take 1 ++ (L.take (k + 2)).drop 1 := (List.take_append_drop 1 _).symm
            rw [List.take_take, Nat.min_eq_left (by omega), hl] at this
            exact this
          generalize hx : val ((L.take (k + 2)).drop 1) = x at *
          have hnb : nb x.toNat = k + 1 := nb_of (by omega) (by omega) (by omega) (by show 256 ^ k ≤ x.toNat; omega) (by omega)
          rw [e1]
          unfold uintB
          rw [if_neg (by omega), hnb, hbv]
          congr 1
          omega
theorem getD_app_lt {L M : List Int} {k : Nat} (h : k < L.length) : (L ++ M).getD k 0 = L.getD k 0 := by simp [List.getD, List.getElem?_append_left h]
theorem uintB_small {n : Nat} (h : n < 248) : uintB n = [(n : Int)] := by unfold uintB; rw [if_pos h]
theorem uintB_large {n : Nat} (h : ¬ n < 248) : uintB n = ((247 + nb n : Nat) : Int) :: be n (nb n) := by unfold uintB; rw [if_neg h]
theorem be_first {x k : Nat} (hk : 1 ≤ k) (h1 : 256 ^ (k - 1) ≤ x) (h2 : x < 256 ^ k) : (be x k).getD 0 0 ≠ 0 := by
  obtain ⟨j, rfl⟩ : ∃ j, k = j + 1 := ⟨k - 1, by omega⟩
  have h1 : 256 ^ j ≤ x := h1
  have e : (be x (j + 1)).getD 0 0 = ((x / 256 ^ j % 256 : Nat) : Int) := rfl
  rw [e]
  have hp : 0 < 256 ^ j := Nat.pow_pos (by decide)
  have hd : 1 ≤ x / 256 ^ j := (Nat.le_div_iff_mul_le hp).2 (by omega)
  have hu : x / 256 ^ j < 256 := (Nat.div_lt_iff_lt_mul hp).2 (by rw [Nat.mul_comm, ← Nat.pow_succ]; exact h2)
  rw [Nat.mod_eq_of_lt hu]
  omega
/-- What was encoded is read back, whatever follows. -/
theorem decU_back {n : Nat} (hn : n ≤ 4611686018427387904) (R : List Int) : decU (uintB n ++ R) = ((n : Int), ((uintB n).length : Int), 0) := by
  by_cases hs : n < 248
  · rw [uintB_small hs]
    unfold decU
    rw [if_neg (by simp), if_pos (by show (n : Int) < 248; omega)]
    rfl
  · obtain ⟨n1, n2, n3, n4⟩ := nb_bd n (by omega) (by omega)
    rw [uintB_large hs]
    have hf := be_first n1 n3 n4
    have hbl := be_len n (nb n)
    have hvb := val_be n (nb n) n4
    generalize nb n = k at *
    unfold decU
    have e0 : (((247 + k : Nat) : Int) :: be n k ++ R).getD 0 0 = ((247 + k : Nat) : Int) := rfl
    have e1 : (((247 + k : Nat) : Int) :: be n k ++ R).getD 1 0 = (be n k).getD 0 0 := by
      have : (((247 + k : Nat) : Int) :: be n k ++ R).getD 1 0 = (be n k ++ R).getD 0 0 := rfl
      rw [this, getD_app_lt (by omega)]
    have e2 : ((((247 + k : Nat) : Int) :: be n k ++ R).take (((247 + k : Nat) : Int) - 246).toNat).drop 1 = be n k := by
      have : (((247 + k : Nat) : Int) - 246).toNat = k + 1 := by omega
      rw [this]
      show ((((247 + k : Nat) : Int) :: (be n k ++ R)).take (k + 1)).drop 1 = be n k
      rw [List.take_succ_cons, List.drop_succ_cons, List.drop_zero]
      have := List.take_left' (l₂ := R) hbl
      exact this
    rw [e0, e1, e2, hvb]
    have hl : (((247 + k : Nat) : Int) :: be n k ++ R).length = k + 1 + R.length := by simp [hbl]; omega
    rw [hl, if_neg (by omega), if_neg (by omega), if_neg (by omega), if_neg (by intro h; rcases h with h | h | h; exact hf h; omega; omega)]
    have : ((((247 + k : Nat) : Int) :: be n k).length : Int) = ((247 + k : Nat) : Int) - 246 := by simp [hbl]; omega
    rw [this]
/-- A cut number. -/
theorem decU_cut {n k : Nat} (hn : n ≤ 4611686018427387904) (hk : k < (uintB n).length) : decU ((uintB n).take k) = (0, 0, 3) := by
  by_cases hk0 : k = 0
  · subst hk0; rfl
  · by_cases hs : n < 248
    · rw [uintB_small hs] at hk
      simp at hk; omega
    · obtain ⟨n1, n2, _, _⟩ := nb_bd n (by omega) (by omega)
      rw [uintB_large hs] at hk ⊢
      have hbl := be_len n (nb n)
      generalize nb n = m at *
      have hkm : k < m + 1 := by simpa [hbl] using hk
      have hl : ((((247 + m : Nat) : Int) :: be n m).take k).length = k := by simp [hbl]; omega
      have e0 : ((((247 + m : Nat) : Int) :: be n m).take k).getD 0 0 = ((247 + m : Nat) : Int) := by
        obtain ⟨j, rfl⟩ : ∃ j, k = j + 1 := ⟨k - 1, by omega⟩
        rfl
      unfold decU
      rw [hl, e0, if_neg hk0, if_neg (by omega), if_pos (by omega)]
theorem uintB_byt {n : Nat} (hn : n ≤ 4611686018427387904) : Byt (uintB n) := by
  by_cases hs : n < 248
  · rw [uintB_small hs]; exact Byt.cons (by omega) Byt.nil
  · obtain ⟨n1, n2, _, _⟩ := nb_bd n (by omega) (by omega)
    rw [uintB_large hs]
    exact Byt.cons (by omega) (be_byt _ _)
/-- A string, read back. -/
theorem decT_back {B : List Int} (hB : B.length ≤ 65536) (R : List Int) : decT (textB B ++ R) = (B, ((textB B).length : Int), 0) := by
  have e : textB B = uintB B.length ++ B := by unfold textB; rw [if_pos hB]
  have hd := decU_back (n := B.length) (by omega) (B ++ R)
  rw [e]
  unfold decT
  rw [List.append_assoc, hd]
  dsimp only
  rw [if_neg (by decide), if_neg (by omega), if_neg (by simp; omega)]
  have e1 : (((uintB B.length).length : Int) + (B.length : Int)).toNat = (uintB B.length).length + B.length := by omega
  rw [e1, Int.toNat_natCast, List.length_append]
  have : ((uintB B.length ++ (B ++ R)).take ((uintB B.length).length + B.length)).drop (uintB B.length).length = B := by
    rw [List.take_append, List.take_of_length_le (by omega), Nat.add_sub_cancel_left, List.take_left' rfl, List.drop_left' rfl]
  rw [this]
  rfl
theorem take_app {L M : List Int} (k : Nat) : (L ++ M).take k = if k < L.length then L.take k else L ++ M.take (k - L.length) := by
  rw [List.take_append]
  split
  · have : k - L.length = 0 := by omega
    rw [this, List.take_zero, List.append_nil]
  · rw [List.take_of_length_le (by omega)]
/-- A cut string. -/
theorem decT_cut {B : List Int} (hB : B.length ≤ 65536) {k : Nat} (hk : k < (textB B).length) : decT ((textB B).take k) = ([], 0, 3) := by
  have e : textB B = uintB B.length ++ B := by unfold textB; rw [if_pos hB]
  rw [e] at hk ⊢
  rw [take_app]
  split
  · rename_i h
    unfold decT
    rw [decU_cut (by omega) h]
    rfl
  · rename_i h
    have hd := decU_back (n := B.length) (by omega) (B.take (k - (uintB B.length).length))
    unfold decT
    rw [hd]
    dsimp only
    have hl : ((B.take (k - (uintB B.length).length)).length) < B.length := by simp at hk ⊢; omega
    rw [if_neg (by decide), if_neg (by omega), if_pos (by rw [List.length_append]; omega)]
theorem restU_cod {n : Nat} (hn : n ≤ 4611686018427387904) (R : List Int) : restU (uintB n ++ R) = R := by
  unfold restU
  rw [decU_back hn R]
  show (uintB n ++ R).drop ((uintB n).length : Int).toNat = R
  rw [Int.toNat_natCast, List.drop_left]
theorem decW_cod {x : Int} (x0 : 0 ≤ x) (x1 : x ≤ 18446744073709551615) (R : List Int) : decW (be x.toNat 8 ++ R) = (x, 8, 0) ∧ restW (be x.toNat 8 ++ R) = R := by
  have hl := be_len x.toNat 8
  have h : decW (be x.toNat 8 ++ R) = (x, 8, 0) := by
    unfold decW
    rw [if_neg (by rw [List.length_append, hl]; omega), List.take_left' hl, val_be _ _ (by omega)]
    congr 1
    omega
  refine ⟨h, ?_⟩
  unfold restW
  rw [h]
  exact List.drop_left' hl
theorem encL_drop {M : List Int} {k : Nat} (h : k < M.length) : encL (M.drop k) = uintB (M.getD k 0).toNat ++ encL (M.drop (k + 1)) := by
  have e : M.getD k 0 = M[k] := by simp [List.getD, h]
  rw [List.drop_eq_getElem_cons h, e]
  show List.flatMap _ (M[k] :: M.drop (k + 1)) = _
  rw [List.flatMap_cons]
  rfl
theorem cell_nat {M : List Int} (h : ∀ n ∈ M, 0 ≤ n ∧ n ≤ 4294967295) {k : Nat} (hk : k < M.length) : (M.getD k 0).toNat ≤ 4611686018427387904 ∧ (((M.getD k 0).toNat : Nat) : Int) = M.getD k 0 := by
  have := h (M[k]) (List.getElem_mem hk)
  simp only [List.getD, List.getElem?_eq_getElem hk, Option.getD_some]
  omega
theorem rests_cod {M : List Int} (h : ∀ n ∈ M, 0 ≤ n ∧ n ≤ 4294967295) (R : List Int) : ∀ k, k ≤ M.length → rests (encL M ++ R) k = encL (M.drop k) ++ R
  | 0, _ => rfl
  | k + 1, hk => by
    show restU (rests (encL M ++ R) k) = _
    rw [rests_cod h R k (by omega), encL_drop hk, List.append_assoc, restU_cod (cell_nat h hk).1]
theorem decU_cod {M : List Int} (h : ∀ n ∈ M, 0 ≤ n ∧ n ≤ 4294967295) (R : List Int) {k : Nat} (hk : k < M.length) : (decU (rests (encL M ++ R) k)).1 = M.getD k 0 ∧ (decU (rests (encL M ++ R) k)).2.2 = 0 := by
  rw [rests_cod h R k (by omega), encL_drop hk, List.append_assoc, decU_back (cell_nat h hk).1]
  exact ⟨(cell_nat h hk).2, rfl⟩
theorem valsN_cod {M : List Int} (h : ∀ n ∈ M, 0 ≤ n ∧ n ≤ 4294967295) (R : List Int) : valsN (encL M ++ R) M.length = M := by
  apply List.ext_getElem
  · rw [valsN_len]
  · intro i h1 h2
    have := (decU_cod h R h2).1
    simp only [valsN, List.getElem_map, List.getElem_range]
    rw [this]
    simp [List.getD, h2]
theorem failN_cod {M : List Int} (h : ∀ n ∈ M, 0 ≤ n ∧ n ≤ 4294967295) (R : List Int) : ∀ k, k ≤ M.length → failN false (encL M ++ R) k = false
  | 0, _ => rfl
  | k + 1, hk => by
    show (failN false (encL M ++ R) k || _) = false
    rw [failN_cod h R k (by omega), (decU_cod h R hk).2]
    rfl
theorem dec_codC {c : CM} (h : cmE c.D c.S c.L = 0) (x0 : 0 ≤ c.x) (x1 : c.x ≤ 18446744073709551615) : decC (codC c) = c ∧ decE (codC c) = 0 := by
  obtain ⟨D, S, x, L, s⟩ := c
  dsimp only at h x0 x1
  obtain ⟨⟨D0, D1, S0, S1⟩, hl, hb⟩ := cmE_ok h
  have hf : flagN s ≤ 1 := by unfold flagN; split <;> omega
  have n1 : D.toNat ≤ 4611686018427387904 := by omega
  have n2 : S.toNat ≤ 4611686018427387904 := by omega
  have n3 : flagN s ≤ 4611686018427387904 := by omega
  have t1 : ((D.toNat : Nat) : Int) = D := by omega
  have t2 : ((S.toNat : Nat) : Int) = S := by omega
  have e : codC ⟨D, S, x, L, s⟩ = uintB D.toNat ++ (uintB S.toNat ++ (be x.toNat 8 ++ (encL L ++ uintB (flagN s)))) := by
    unfold codC
    rw [if_pos h]
    simp only [List.append_assoc]
  generalize codC ⟨D, S, x, L, s⟩ = B at *
  have r1 : restU B = uintB S.toNat ++ (be x.toNat 8 ++ (encL L ++ uintB (flagN s))) := by rw [e, restU_cod n1]
  have r2 : restU (restU B) = be x.toNat 8 ++ (encL L ++ uintB (flagN s)) := by rw [r1, restU_cod n2]
  have r3 : dR B = encL L ++ uintB (flagN s) := by unfold dR; rw [r2, (decW_cod x0 x1 _).2]
  have v1 : dD B = D := by unfold dD; rw [e, decU_back n1]; exact t1
  have v2 : dS B = S := by unfold dS; rw [r1, decU_back n2]; exact t2
  have v3 : dX B = x := by unfold dX; rw [r2, (decW_cod x0 x1 _).1]
  have v4 : dN B = L.length := by unfold dN; rw [v1, v2]; omega
  have v5 : dF B = false := by
    unfold dF
    rw [r2, (decW_cod x0 x1 _).1, r1, decU_back n2, e, decU_back n1]
    rfl
  have q1 : rests (dR B) (dN B) = uintB (flagN s) ++ [] := by
    rw [r3, v4, rests_cod hb _ _ (Nat.le_refl _), List.drop_length, List.append_nil]
    rfl
  have q2 : decU (rests (dR B) (dN B)) = (((flagN s : Nat) : Int), ((uintB (flagN s)).length : Int), 0) := by rw [q1, decU_back n3]
  have q3 : rests (dR B) (dN B + 1) = [] := by
    show restU (rests (dR B) (dN B)) = []
    rw [q1, restU_cod n3]
  have q4 : failN (dF B) (dR B) (dN B + 1) = false := by
    show (failN (dF B) (dR B) (dN B) || (decU (rests (dR B) (dN B))).2.2 != 0) = false
    rw [q2, v5, r3, v4, failN_cod hb _ _ (Nat.le_refl _)]
    rfl
  have q5 : valsN (dR B) (dN B) = L := by rw [r3, v4, valsN_cod hb]
  have q6 : dG B = ((flagN s : Nat) : Int) := by unfold dG; rw [q2]
  have hok : dOk B = true := by
    refine dOk_mk (by rw [v1, v2]; exact (shpB_iff D S).2 ⟨D0, D1, S0, S1⟩) q4 q3 (by rw [q6]; omega) ?_
    rw [q5, List.all_eq_true]
    intro n hn
    exact (celB_iff n).2 (hb n hn)
  obtain ⟨w1, w2⟩ := dec_yes hok
  refine ⟨?_, w2⟩
  rw [w1, v1, v2, v3, q5, q6]
  cases s <;> rfl
theorem celI_one (x : Int) (k : ByteArray) : celI x 1 k 0 = 0 := by
  have := celI_lt (x := x) (D := 1) (S := 1) (k := k) (r := 0) (n := 1) (by omega) (by omega) (by omega)
  omega
theorem k_new (w : World) : Calls Try.prog 11 #[.int .i64 1, .int .i64 1, .int .u64 5] w fun e w' => ∃ a n cap, e = .returned (.tuple #[.agg #[.int .i64 1, .int .i64 1, .int .u64 5, .slice a n cap, .bool false], .int .i64 0]) ∧ RdI [0] (.slice a n cap) w' ∧ Below w.heap.size w w' := by
  refine (cnew_any 1 1 5 w (by decide) (by decide) (by decide) (by decide)).mono ?_
  rintro e w' ⟨v, rfl, ⟨a, n, cap, rfl, ho⟩, hb⟩
  exact ⟨a, n, cap, rfl, ho.rd, hb⟩
theorem k_cm : cmIns ⟨1, 1, 5, [0], false⟩ ⟨#[97]⟩ 3 = ⟨1, 1, 5, [3], false⟩ := by
  have h1 : cmE 1 1 [0] = 0 := by decide
  have h2 : itemE (byt ⟨#[97]⟩) 3 = 0 := by decide +kernel
  unfold cmIns
  dsimp only
  rw [if_neg (by simp [h1]), if_neg (by simp [h2])]
  show CM.mk 1 1 5 ([(0 : Int)].set (celI 5 1 ⟨#[97]⟩ 0) (sumT ([(0 : Int)].getD (celI 5 1 ⟨#[97]⟩ 0) 0) 3)) (false || sumF ([(0 : Int)].getD (celI 5 1 ⟨#[97]⟩ 0) 0) 3) = _
  rw [celI_one]
  rfl
theorem k_cmE : cmInsE ⟨1, 1, 5, [0], false⟩ ⟨#[97]⟩ 3 = 0 := by
  have h1 : cmE 1 1 [0] = 0 := by decide
  have h2 : itemE (byt ⟨#[97]⟩) 3 = 0 := by decide +kernel
  unfold cmInsE
  dsimp only
  rw [if_neg (by simp [h1]), h2]
theorem k_ins (a : Option Addr) (n cap : Nat) (w : World) (hR : RdI [0] (.slice a n cap) w) : Calls Try.prog 19 #[.agg #[.int .i64 1, .int .i64 1, .int .u64 5, .slice a n cap, .bool false], .agg #[.string ⟨#[97]⟩, .int .i64 3]] w fun e w' =>
    ∃ a n cap, e = .returned (.tuple #[.agg #[.int .i64 1, .int .i64 1, .int .u64 5, .slice a n cap, .bool false], .int .i64 0]) ∧ RdI [3] (.slice a n cap) w' ∧ Below w.heap.size w w' := by
  have h := cins_any ⟨1, 1, 5, [0], false⟩ _ ⟨#[97]⟩ 3 w ⟨by decide, by decide, by decide, by decide⟩ ⟨a, n, cap, rfl, hR⟩ (by decide) (by decide) (by decide)
  rw [k_cm, k_cmE] at h
  refine h.mono ?_
  rintro e w' ⟨v, rfl, ⟨a, n, cap, rfl, ho⟩, hb⟩
  exact ⟨a, n, cap, rfl, ho.rd, hb⟩
theorem k_est (a : Option Addr) (n cap : Nat) (w : World) (hR : RdI [3] (.slice a n cap) w) : Calls Try.prog 25 #[.agg #[.int .i64 1, .int .i64 1, .int .u64 5, .slice a n cap, .bool false], .string ⟨#[98]⟩] w fun e w' =>
    e = .returned (.tuple #[.int .i64 3, .int .i64 0]) ∧ Below w.heap.size w w' := by
  have h := cest_any ⟨1, 1, 5, [3], false⟩ _ ⟨#[98]⟩ w ⟨by decide, by decide, by decide, by decide⟩ ⟨a, n, cap, rfl, hR⟩ (by decide)
  have h1 : cmE 1 1 [3] = 0 := by decide
  have h2 : keyB (byt ⟨#[98]⟩) = true := by decide +kernel
  have e1 : cmEstE ⟨1, 1, 5, [3], false⟩ ⟨#[98]⟩ = 0 := by
    unfold cmEstE
    dsimp only
    rw [if_neg (by simp [h1]), if_neg (by simp [h2])]
  have e2 : cmEst ⟨1, 1, 5, [3], false⟩ ⟨#[98]⟩ = 3 := by
    unfold cmEst
    rw [e1, if_neg (by simp)]
    show min 4294967295 ([(3 : Int)].getD (celI 5 1 ⟨#[98]⟩ 0) 0) = 3
    rw [celI_one]
    rfl
  rw [e1, e2] at h
  exact h
set_option maxRecDepth 100000 in
set_option maxHeartbeats 1000000 in
theorem known_any (w : World) : Calls Try.prog 10 #[] w fun e w' => e = .returned (.bool true) ∧ Below w.heap.size w w' := by
  go_enter Try.func10, Try.ntmps10
  go_wp2_with (first
    | (go_at_call 11; refine (k_new _).mono ?_; rintro e w2 ⟨a2, n2, c2, rfl, hr2, hb2⟩; have R2 := Lib.hid hr2; have B2 := Lib.hid hb2; clear hr2 hb2)
    | (go_at_call 19; refine (k_ins _ _ _ _ (R2.out.below (b1 _))).mono ?_; rintro e w3 ⟨a3, n3, c3, rfl, hr3, hb3⟩; have R3 := Lib.hid hr3; have B3 := Lib.hid (bgo (bal B2.out _) hb3); clear hr3 hb3)
    | (go_at_call 25; refine (k_est _ _ _ _ (R3.out.below (b1 _))).mono ?_; rintro e w4 ⟨rfl, hb4⟩; have B4 := Lib.hid (bgo (bal B3.out _) hb4); clear hb4))
  go_ret
  exact ⟨rfl, B4.out⟩
set_option maxRecDepth 100000 in
set_option maxHeartbeats 4000000 in
theorem countminCodes_walk (a b s : Int) (al : Option Addr) (ln cap : Nat) (z : List Int) (n : Int) (bl : Option Addr) (lm cbp : Nat) (y : List Int) (W : World) (wa : (Lit.int .i64 a).wf = true) (wb : (Lit.int .i64 b).wf = true) (ws : (Lit.int .i64 s).wf = true) (w0 : InRow .i64 W al ln cap z) (wn : (Lit.int .i64 n).wf = true) (w1 : InRow .u8 W bl lm cbp y) :
    Calls Try.prog 7 #[.int .i64 a, .int .i64 b, .int .i64 s, .slice al ln cap, .int .i64 n, .slice bl lm cbp] W fun e w' => e = .returned (.bool true) ∧ Below W.heap.size W w' := by
  have gn : lm ≤ 9223372036854775807 := by have := w1.1; have := w1.2.1; unfold maxLen at this; omega
  by_cases hn : 300 < lm
  · clear wa wb ws wn w0 w1
    go_enter Try.func7, Try.ntmps7
    go_wp2_with (go_at_call 10; refine (known_any _).mono ?_; rintro e w2 ⟨rfl, hb2⟩)
    go_ret
    exact ⟨rfl, hb2⟩
  · have hn2 : (lm : Int) ≤ 300 := by omega
    obtain ⟨s0, s1⟩ := wf_bd ws
    obtain ⟨n0, n1⟩ := wf_bd wn
    have hx := wrap_bd s
    have h1 := made_any a b s (z.take ln) _ W s0 s1 (inRow_rdJ w0)
    have hm := Lib.hid (up_ok a b (IntKind.u64.wrap s) ((z.take ln).take 7) hx.1 hx.2)
    unfold madeC at h1
    generalize mdUp (newC (1 + a % 4) (1 + b % 8) (IntKind.u64.wrap s)) ((z.take ln).take 7) = cm at *
    have h2 := fun (v : Value) (w : World) (hv : RdC cm v w) => spoil_any cm v n w hm.out.1 hv hm.out.2.1 hm.out.2.2 n0 n1
    have HC := Lib.hid (inRow_rd w1)
    generalize y.take lm = L at *
    have HD1 := Lib.hid (fun x (hb : Below W.heap.size W x) => cdec_any L (.slice bl lm cbp) x (HC.out.below hb))
    have HD2 := Lib.hid (fun x (hb : Below W.heap.size W x) => rcdec_any L (.slice bl lm cbp) x (HC.out.below hb))
    generalize decC L = d at *
    generalize decE L = DE at *
    clear wa wb ws wn w0 w1 hx
    go_enter Try.func7, Try.ntmps7
    go_wp2_with (first
      | (go_at_call 17; (with_reducible refine h1.mono ?_); rintro e w2 ⟨v2, rfl, hr2, hb2⟩; have O2 := Lib.hid hr2; have B2 := Lib.hid hb2; clear h1 hr2 hb2)
      | (go_at_call 16; (with_reducible refine (h2 _ _ O2.out).mono ?_); rintro e w3 ⟨c, v3, rfl, hwc, ⟨a3, n3, c3, rfl, ho3⟩, hb3⟩; have HWc := Lib.hid hwc; have S3 := Lib.hid (SkAt.new ho3 26); have B3 := Lib.hid (bal (bgo B2.out hb3) (.cells #[.int .i64 c.D, .int .i64 c.S, .int .u64 c.x, .slice a3 n3 c3, .bool c.s] 26)); clear h2 hwc ho3 hb3 B2 O2 hm; have f1 := (fun (w : World) (hv : RdC c (.agg #[.int .i64 c.D, .int .i64 c.S, .int .u64 c.x, .slice a3 n3 c3, .bool c.s]) w) => cenc_any c _ w HWc.out hv); have f2 := (fun (w : World) (hv : RdC c (.agg #[.int .i64 c.D, .int .i64 c.S, .int .u64 c.x, .slice a3 n3 c3, .bool c.s]) w) => rcenc_any c _ w HWc.out hv); have HBK := Lib.hid (fun h => dec_codC (c := c) h HWc.out.2.2.1 HWc.out.2.2.2); generalize codC c = R at *; generalize cmE c.D c.S c.L = E at *)
      | (go_at_call 28; (with_reducible refine (f1 _ S3.out.rd).mono ?_); rintro e w4 ⟨v4, rfl, ho4, hb4⟩; have S4 := Lib.hid (S3.out.below hb4); have B4 := Lib.hid (bgo B3.out hb4); have O4 := Lib.hid ho4.rd; clear f1 ho4 hb4 S3 B3; obtain ⟨⟨⟨p0, p1, p2, p3, p4⟩, _⟩, _⟩ := S4.out)
      | (go_at_call 29; (with_reducible refine (f2 _ S4.out.rd).mono ?_); rintro e w5 ⟨v5, rfl, ho5, hb5⟩; have S5 := Lib.hid (S4.out.below hb5); have B5 := Lib.hid (bgo B4.out hb5); have P5 := Lib.hid ho5.rd; have O5 := Lib.hid (O4.out.below hb5); clear f2 ho5 hb5 S4 B4 O4 p0 p1 p2 p3 p4)
      | (go_at_call 30; (with_reducible refine (HD1.out _ B5.out).mono ?_); rintro e w6 ⟨u6, rfl, ⟨a6, n6, c6, rfl, ho6⟩, hb6⟩; have HDD := Lib.hid (SkAt.new ho6.rd 26); have S6 := Lib.hid ((S5.out.below hb6).alloc (.cells #[.int .i64 d.D, .int .i64 d.S, .int .u64 d.x, .slice a6 n6 c6, .bool d.s] 26)); have B6 := Lib.hid (bal (bgo B5.out hb6) (.cells #[.int .i64 d.D, .int .i64 d.S, .int .u64 d.x, .slice a6 n6 c6, .bool d.s] 26)); have P6 := Lib.hid ((P5.out.below hb6).below (b1 (.cells #[.int .i64 d.D, .int .i64 d.S, .int .u64 d.x, .slice a6 n6 c6, .bool d.s] 26))); have O6 := Lib.hid ((O5.out.below hb6).below (b1 (.cells #[.int .i64 d.D, .int .i64 d.S, .int .u64 d.x, .slice a6 n6 c6, .bool d.s] 26))); clear ho6 hb6 S5 B5 P5 O5)
      | (go_at_call 31; (with_reducible refine (HD2.out _ B6.out).mono ?_); rintro e w7 ⟨u7, rfl, ⟨a7, n7, c7, rfl, ho7⟩, hb7⟩; have HEE := Lib.hid (SkAt.new ho7.rd 26); have HD7 := Lib.hid ((HDD.out.below hb7).alloc (.cells #[.int .i64 d.D, .int .i64 d.S, .int .u64 d.x, .slice a7 n7 c7, .bool d.s] 26)); have S7 := Lib.hid ((S6.out.below hb7).alloc (.cells #[.int .i64 d.D, .int .i64 d.S, .int .u64 d.x, .slice a7 n7 c7, .bool d.s] 26)); have B7 := Lib.hid (bal (bgo B6.out hb7) (.cells #[.int .i64 d.D, .int .i64 d.S, .int .u64 d.x, .slice a7 n7 c7, .bool d.s] 26)); have P7 := Lib.hid ((P6.out.below hb7).below (b1 (.cells #[.int .i64 d.D, .int .i64 d.S, .int .u64 d.x, .slice a7 n7 c7, .bool d.s] 26))); have O7 := Lib.hid ((O6.out.below hb7).below (b1 (.cells #[.int .i64 d.D, .int .i64 d.S, .int .u64 d.x, .slice a7 n7 c7, .bool d.s] 26))); clear ho7 hb7 S6 B6 P6 O6 HDD; have cv1 := O7.out.conv; have cv2 := P7.out.conv; obtain ⟨⟨⟨p0, p1, p2, p3, p4⟩, _⟩, _⟩ := S7.out; obtain ⟨⟨⟨q0, q1, q2, q3, q4⟩, _⟩, _⟩ := HD7.out; obtain ⟨⟨⟨t0, t1, t2, t3, t4⟩, _⟩, _⟩ := HEE.out)
      | (go_at_call 15; (with_reducible refine (sameC_any d _ _ _ HD7.out.rd HEE.out.rd).mono ?_); rintro e w8 ⟨rfl, hb8⟩; have S8 := Lib.hid (S7.out.below hb8); have B8 := Lib.hid (bgo B7.out hb8); have O8 := Lib.hid (O7.out.below hb8); clear hb8 S7 B7 O7 P7 HD7 HEE cv1 cv2 p0 p1 p2 p3 p4 q0 q1 q2 q3 q4 t0 t1 t2 t3 t4)
      | (go_at_call 30; (have hE : E = 0 := eq_of_beq (by assumption)); obtain ⟨k1, k2⟩ := HBK.out hE; have hd := cdec_any R v4 _ O8.out; rw [k1, k2] at hd; clear k1 k2 hE; (with_reducible refine hd.mono ?_); rintro e w9 ⟨u9, rfl, ⟨a9, n9, c9, rfl, ho9⟩, hb9⟩; have D9 := Lib.hid (SkAt.new ho9.rd 26); have S9 := Lib.hid ((S8.out.below hb9).alloc (.cells #[.int .i64 c.D, .int .i64 c.S, .int .u64 c.x, .slice a9 n9 c9, .bool c.s] 26)); have B9 := Lib.hid (bal (bgo B8.out hb9) (.cells #[.int .i64 c.D, .int .i64 c.S, .int .u64 c.x, .slice a9 n9 c9, .bool c.s] 26)); clear ho9 hb9 S8 B8 O8 hd; obtain ⟨⟨⟨p0, p1, p2, p3, p4⟩, -⟩, -⟩ := S9.out; obtain ⟨⟨⟨q0, q1, q2, q3, q4⟩, -⟩, -⟩ := D9.out)
      | (go_at_call 15; (with_reducible refine (sameC_any c _ _ _ S9.out.rd D9.out.rd).mono ?_); rintro e w10 ⟨rfl, hb10⟩; have B10 := Lib.hid (bgo B9.out hb10); clear hb10 S9 B9 D9 p0 p1 p2 p3 p4 q0 q1 q2 q3 q4)
      | (go_at_call 10; (with_reducible refine (known_any _).mono ?_); rintro e wz ⟨rfl, hbz⟩; have BZ : Hid (Below W.heap.size W wz) := Lib.hid (by first | exact bgo B10.out hbz | exact bgo B8.out hbz); clear hbz))
    all_goals
      go_ret
      exact ⟨rfl, BZ.out⟩
end Go.Proofs.Ytlbbmnjhohfbkaa
