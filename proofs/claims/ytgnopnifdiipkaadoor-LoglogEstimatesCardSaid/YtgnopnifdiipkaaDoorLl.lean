/- LogLog sketches as plain numbers. -/
import Derived.Test.YtgnopnifdiipkaaDoorItem
import Derived.Test.YtgnopnifdiipkaaDoorHashes
import Derived.Test.YtgnopnifdiipkaaDoorTabIn
import Derived.Test.YtgnopnifdiipkaaDoorIntRow
import Derived.Test.YtgnopnifdiipkaaDoorWords
namespace Go.Proofs.YtgnopnifdiipkaaDoor
open Go.RowKit
set_option linter.unusedVariables false
set_option linter.unusedSimpArgs false
/-- A sketch: precision, seed, registers. -/
structure LL where
  P : Int
  x : Int
  L : List Int
def LL.none : LL := ⟨0, 0, []⟩
/-- May P be a precision? -/
def prB (P : Int) : Bool := decide (2 ≤ P) && decide (P ≤ 8)
theorem prB_iff (P : Int) : prB P = true ↔ 2 ≤ P ∧ P ≤ 8 := by
  unfold prB
  rw [Bool.and_eq_true, decide_eq_true_eq, decide_eq_true_eq]
theorem prB_no {P : Int} (h : prB P = false) : P < 2 ∨ 8 < P := by
  unfold prB at h
  rw [Bool.and_eq_false_iff, decide_eq_false_iff_not, decide_eq_false_iff_not] at h
  omega
/-- May n be a register? -/
def regB (P n : Int) : Bool := decide (0 ≤ n) && decide (n ≤ 65 - P)
theorem regB_iff (P n : Int) : regB P n = true ↔ 0 ≤ n ∧ n ≤ 65 - P := by
  unfold regB
  rw [Bool.and_eq_true, decide_eq_true_eq, decide_eq_true_eq]
/-- How many registers. -/
def llN (P : Int) : Nat := 2 ^ P.toNat
theorem llN_bd {P : Int} (h : 2 ≤ P ∧ P ≤ 8) : 4 ≤ llN P ∧ llN P ≤ 256 := by
  obtain ⟨p, rfl⟩ : ∃ p : Nat, P = (p : Int) := ⟨P.toNat, by omega⟩
  have : p = 2 ∨ p = 3 ∨ p = 4 ∨ p = 5 ∨ p = 6 ∨ p = 7 ∨ p = 8 := by omega
  rcases this with rfl | rfl | rfl | rfl | rfl | rfl | rfl <;> decide
/-- What Validate says. -/
def llE (P : Int) (L : List Int) : Int := if prB P = false then 5 else if (L.length : Int) ≠ (llN P : Nat) then 18 else if L.all (regB P) = true then 0 else 5
theorem llE_ok {P : Int} {L : List Int} (h : llE P L = 0) : (2 ≤ P ∧ P ≤ 8) ∧ L.length = llN P ∧ ∀ n ∈ L, 0 ≤ n ∧ n ≤ 65 - P := by
  unfold llE at h
  by_cases h1 : prB P = false
  · rw [if_pos h1] at h; omega
  · rw [if_neg h1] at h
    by_cases h2 : (L.length : Int) ≠ (llN P : Nat)
    · rw [if_pos h2] at h; omega
    · rw [if_neg h2] at h
      by_cases h3 : L.all (regB P) = true
      · refine ⟨(prB_iff P).1 (by simpa using h1), by omega, fun n hn => (regB_iff P n).1 (List.all_eq_true.1 h3 n hn)⟩
      · rw [if_neg h3] at h; omega
theorem llE_mk {P : Int} {L : List Int} (h1 : 2 ≤ P ∧ P ≤ 8) (h2 : L.length = llN P) (h3 : ∀ n ∈ L, 0 ≤ n ∧ n ≤ 65 - P) : llE P L = 0 := by
  unfold llE
  rw [if_neg (by rw [(prB_iff P).2 h1]; simp), if_neg (by rw [h2]; simp), if_pos (List.all_eq_true.2 fun n hn => (regB_iff P n).2 (h3 n hn))]
theorem llE_shp {P : Int} {L : List Int} (h : prB P = false) : llE P L = 5 := by unfold llE; rw [if_pos h]
theorem llE_len {P : Int} {L : List Int} (h : prB P = true) (h2 : ¬ L.length = llN P) : llE P L = 18 := by unfold llE; rw [if_neg (by rw [h]; simp), if_pos (by omega)]
theorem lall_getD {p : Int → Bool} {L : List Int} (h : ∀ j, j < L.length → p (L.getD j 0) = true) : L.all p = true := by
  rw [List.all_eq_true]
  intro n hn
  obtain ⟨j, hj, rfl⟩ := List.getElem_of_mem hn
  have := h j hj
  simpa [List.getD, hj] using this
theorem lnot_all_getD {p : Int → Bool} {L : List Int} {j : Nat} (hj : j < L.length) (h : p (L.getD j 0) = false) : L.all p = false := by
  rw [List.all_eq_false]
  refine ⟨L[j], List.getElem_mem hj, ?_⟩
  simpa [List.getD, hj] using h
theorem llE_bad {P : Int} {L : List Int} (h : prB P = true) (h2 : L.length = llN P) {j : Nat} (hj : j < L.length) (h3 : regB P (L.getD j 0) = false) : llE P L = 5 := by
  unfold llE
  rw [if_neg (by rw [h]; simp), if_neg (by rw [h2]; simp), if_neg (by rw [lnot_all_getD hj h3]; simp)]
theorem llE_all {P : Int} {L : List Int} (h : prB P = true) (h2 : L.length = llN P) (h3 : ∀ j, j < L.length → regB P (L.getD j 0) = true) : llE P L = 0 := by
  unfold llE
  rw [if_neg (by rw [h]; simp), if_neg (by rw [h2]; simp), if_pos (lall_getD h3)]
/-- A new sketch, its error. -/
def newL (P x : Int) : LL := if prB P = true then ⟨P, x, List.replicate (llN P) 0⟩ else LL.none
def newLE (P : Int) : Int := if prB P = true then 0 else 5
/-- Register and rank of a key: the hash's upper bits; the zeros that its lower bits begin with, and one. -/
def hashL (x : Int) (k : ByteArray) : Int := hashI (tab x 256) k
theorem hashL_bd (x : Int) (k : ByteArray) : 0 ≤ hashL x k ∧ hashL x k ≤ 18446744073709551615 := hashI_bd _ k
def lowL (P x : Int) (k : ByteArray) : Nat := (hashL x k).toNat % 2 ^ (64 - P.toNat)
def posE (P : Int) (k : ByteArray) : Int := if prB P = false then 5 else if keyB (byt k) = false then 7 else 0
def regI (P x : Int) (k : ByteArray) : Nat := (hashL x k).toNat / 2 ^ (64 - P.toNat)
def rnkI (P x : Int) (k : ByteArray) : Int := 65 - P - (Lib.bitLen (lowL P x k) : Nat)
def posR (P x : Int) (k : ByteArray) : Int := if posE P k = 0 then (regI P x k : Nat) else 0
def posK (P x : Int) (k : ByteArray) : Int := if posE P k = 0 then rnkI P x k else 0
theorem regI_lt {P x : Int} {k : ByteArray} (h : 2 ≤ P ∧ P ≤ 8) : regI P x k < llN P := by
  have hb := hashL_bd x k
  unfold regI llN
  rw [Nat.div_lt_iff_lt_mul (Nat.two_pow_pos _), ← Nat.pow_add, show P.toNat + (64 - P.toNat) = 64 by omega]
  omega
/-- An insertion. -/
def llIns (c : LL) (k : ByteArray) (n : Int) : LL :=
  if llE c.P c.L ≠ 0 then LL.none else if itemE (byt k) n ≠ 0 then LL.none else ⟨c.P, c.x, c.L.set (regI c.P c.x k) (max (c.L.getD (regI c.P c.x k) 0) (rnkI c.P c.x k))⟩
def llInsE (c : LL) (k : ByteArray) (n : Int) : Int := if llE c.P c.L ≠ 0 then llE c.P c.L else itemE (byt k) n
/-- A merge. -/
def maxL (A B : List Int) (k : Nat) : List Int := (List.range k).map fun j => max (A.getD j 0) (B.getD j 0)
theorem maxL_len (A B : List Int) (k : Nat) : (maxL A B k).length = k := by simp [maxL]
theorem maxL_succ (A B : List Int) (k : Nat) : maxL A B (k + 1) = maxL A B k ++ [max (A.getD k 0) (B.getD k 0)] := by simp [maxL, List.range_succ]
def llMerE (a b : LL) : Int := if llE a.P a.L ≠ 0 then llE a.P a.L else if llE b.P b.L ≠ 0 then llE b.P b.L else if a.P ≠ b.P ∨ a.x ≠ b.x then 10 else 0
def llMer (a b : LL) : LL := if llMerE a b ≠ 0 then LL.none else ⟨a.P, a.x, maxL a.L b.L a.L.length⟩
/-- The estimate. -/
def zrI (n : Int) : Int := if n ≤ 50 then (2 ^ (50 - n).toNat : Nat) else 0
def zsum (L : List Int) : Nat → Int
  | 0 => 0
  | k + 1 => zsum L k + zrI (L.getD k 0)
def wtab : List Int := [541000, 627000, 673000, 697000, 709000, 715270, 718271]
def llEst (c : LL) : Int := if llE c.P c.L ≠ 0 then 0 else if c.L.all (fun n => decide (n = 0)) = true then 0 else min (wtab.getD (c.P - 2).toNat 0 * c.L.length * c.L.length * 1125899906842624 / max (zsum c.L c.L.length) 1 / 1000000) 1099511627776
/-- A sketch as a value. -/
def OwnL (B : Nat) (c : LL) (v : Value) (w : World) : Prop := ∃ a n cap, v = .agg #[.int .i64 c.P, .int .u64 c.x, .slice a n cap] ∧ OwnI B c.L (.slice a n cap) w
def RdL (c : LL) (v : Value) (w : World) : Prop := ∃ a n cap, v = .agg #[.int .i64 c.P, .int .u64 c.x, .slice a n cap] ∧ RdI c.L (.slice a n cap) w
theorem OwnL.rd {B : Nat} {c : LL} {v : Value} {w : World} (h : OwnL B c v w) : RdL c v w := by
  obtain ⟨a, n, cap, hv, ho⟩ := h
  exact ⟨a, n, cap, hv, ho.rd⟩
theorem RdL.below {c : LL} {v : Value} {w w' : World} (h : RdL c v w) (hb : Below w.heap.size w w') : RdL c v w' := by
  obtain ⟨a, n, cap, hv, ho⟩ := h
  exact ⟨a, n, cap, hv, ho.below hb⟩
theorem RdL.of {c : LL} {a : Option Addr} {n cap : Nat} {w : World} (h : RdI c.L (.slice a n cap) w) : RdL c (.agg #[.int .i64 c.P, .int .u64 c.x, .slice a n cap]) w := ⟨a, n, cap, rfl, h⟩
theorem noneL_own (B : Nat) (w : World) : OwnL B LL.none (.agg #[.int .i64 0, .int .u64 0, .slice none 0 0]) w := ⟨_, _, _, rfl, OwnI.empty _ _⟩
theorem bset3 {a w : World} (h : Below a.heap.size a w) (k : Nat) (hk : a.heap.size ≤ k) (v0 v1 v2 : Value) :
    Below a.heap.size a (((w.setCell ⟨k, 0, none⟩ v0).setCell ⟨k, 1, none⟩ v1).setCell ⟨k, 2, none⟩ v2) :=
  bset (bset (bset h k 0 v0 hk) k 1 v1 hk) k 2 v2 hk
theorem OwnI.keep3 {B k : Nat} {L : List Int} {v : Value} {w : World} (h : OwnI B L v w) (hk : k < B) (v0 v1 v2 : Value) :
    OwnI B L v (((w.setCell ⟨k, 0, none⟩ v0).setCell ⟨k, 1, none⟩ v1).setCell ⟨k, 2, none⟩ v2) :=
  ((h.keep hk 0 v0).keep hk 1 v1).keep hk 2 v2
/-- A struct of three cells in memory: a sketch. -/
def LSt (g : Nat) (P x : Int) (v : Value) (w : World) : Prop :=
  (w.cell? ⟨g, 0, none⟩ = some (.int .i64 P) ∧ w.cell? ⟨g, 1, none⟩ = some (.int .u64 x) ∧ w.cell? ⟨g, 2, none⟩ = some v) ∧
    w.frozen? ⟨g, 0, none⟩ = false ∧ w.frozen? ⟨g, 1, none⟩ = false ∧ w.frozen? ⟨g, 2, none⟩ = false
theorem LSt.keep {g : Nat} {P x : Int} {v : Value} {w w' : World} (h : LSt g P x v w) (hb : w'.heap[g]? = w.heap[g]?) : LSt g P x v w' := by
  obtain ⟨⟨h0, h1, h2⟩, f0, f1, f2⟩ := h
  have hc : ∀ o, w'.cell? ⟨g, o, none⟩ = w.cell? ⟨g, o, none⟩ := fun o => World.cell?_of_block (w := w) (a := ⟨g, o, none⟩) hb
  have hf : ∀ o, w'.frozen? ⟨g, o, none⟩ = w.frozen? ⟨g, o, none⟩ := fun o => World.frozen?_of_block (w := w) (a := ⟨g, o, none⟩) hb
  exact ⟨⟨(hc _).trans h0, (hc _).trans h1, (hc _).trans h2⟩, (hf _).trans f0, (hf _).trans f1, (hf _).trans f2⟩
theorem LSt.below {g : Nat} {P x : Int} {v : Value} {w w' : World} (h : LSt g P x v w) {B : Nat} (hb : Below B w w') (hg : g < B) : LSt g P x v w' := h.keep (hb.block g hg)
theorem LSt.size {g : Nat} {P x : Int} {v : Value} {w : World} (h : LSt g P x v w) : g < w.heap.size := block_lt_of_cell h.1.1
theorem LSt.far {g : Nat} {P x : Int} {v : Value} {w : World} (h : LSt g P x v w) {b : Nat} (hb : g ≠ b) (o : Nat) (u : Value) : LSt g P x v (w.setCell ⟨b, o, none⟩ u) :=
  h.keep (Below.heap_setCell w ⟨b, o, none⟩ u g hb)
theorem LSt.setV {g : Nat} {P x : Int} {v : Value} {w : World} (h : LSt g P x v w) (u : Value) (hu : u.oneCell' = true := by rfl) : LSt g P x u (w.setCell ⟨g, 2, none⟩ u) := by
  obtain ⟨⟨h0, h1, h2⟩, f0, f1, f2⟩ := h
  exact ⟨⟨by go_simp, by go_simp, by go_simp⟩, by go_simp, by go_simp, by go_simp⟩
theorem LSt.new (P x : Int) (v : Value) (t : TypeId) (w : World) : LSt w.heap.size P x v (w.alloc (.cells #[.int .i64 P, .int .u64 x, v] t)) := by
  exact ⟨⟨by go_simp, by go_simp, by go_simp⟩, by go_simp, by go_simp, by go_simp⟩
theorem LSt.drewM {g : Nat} {P x : Int} {v : Value} {w : World} (h : LSt g P x v w) (j : Nat) : LSt g P x v (w.drewN j) := h
end Go.Proofs.YtgnopnifdiipkaaDoor
