/- CmNew, Ll: in one text. -/
import Derived.Test.YtcndobdbjillpaaGreatDoorPk02
import Derived.Test.YtcndobdbjillpaaGreatDoorPk00
import Derived.Test.YtcndobdbjillpaaGreatDoorPk01
namespace Go.Proofs.YtcndobdbjillpaaGreatDoor
open Go.RowKit
set_option linter.unusedVariables false
set_option linter.unusedSimpArgs false
/-- A new sketch: its cells, its error. -/
def newC (D S x : Int) : CM := if shpB D S = true then ⟨D, S, x, List.replicate (D * S).toNat 0, false⟩ else CM.none
def newE (D S : Int) : Int := if shpB D S = true then 0 else 5
/-- A sketch as a value: its cells are the call's own. -/
def OwnC (B : Nat) (c : CM) (v : Value) (w : World) : Prop := ∃ a n cap, v = .agg #[.int .i64 c.D, .int .i64 c.S, .int .u64 c.x, .slice a n cap, .bool c.s] ∧ OwnI B c.L (.slice a n cap) w
/-- A sketch as a value, to be read. -/
def RdC (c : CM) (v : Value) (w : World) : Prop := ∃ a n cap, v = .agg #[.int .i64 c.D, .int .i64 c.S, .int .u64 c.x, .slice a n cap, .bool c.s] ∧ RdI c.L (.slice a n cap) w
theorem OwnC.rd {B : Nat} {c : CM} {v : Value} {w : World} (h : OwnC B c v w) : RdC c v w := by
  obtain ⟨a, n, cap, hv, ho⟩ := h
  exact ⟨a, n, cap, hv, ho.rd⟩
theorem RdC.below {c : CM} {v : Value} {w w' : World} (h : RdC c v w) (hb : Below w.heap.size w w') : RdC c v w' := by
  obtain ⟨a, n, cap, hv, ho⟩ := h
  exact ⟨a, n, cap, hv, ho.below hb⟩
theorem bset5 {a w : World} (h : Below a.heap.size a w) (k : Nat) (hk : a.heap.size ≤ k) (v0 v1 v2 v3 v4 : Value) :
    Below a.heap.size a (((((w.setCell ⟨k, 0, none⟩ v0).setCell ⟨k, 1, none⟩ v1).setCell ⟨k, 2, none⟩ v2).setCell ⟨k, 3, none⟩ v3).setCell ⟨k, 4, none⟩ v4) :=
  bset (bset (bset (bset (bset h k 0 v0 hk) k 1 v1 hk) k 2 v2 hk) k 3 v3 hk) k 4 v4 hk
theorem OwnI.keep5 {B k : Nat} {L : List Int} {v : Value} {w : World} (h : OwnI B L v w) (hk : k < B) (v0 v1 v2 v3 v4 : Value) :
    OwnI B L v (((((w.setCell ⟨k, 0, none⟩ v0).setCell ⟨k, 1, none⟩ v1).setCell ⟨k, 2, none⟩ v2).setCell ⟨k, 3, none⟩ v3).setCell ⟨k, 4, none⟩ v4) :=
  ((((h.keep hk 0 v0).keep hk 1 v1).keep hk 2 v2).keep hk 3 v3).keep hk 4 v4
theorem noneC_own (B : Nat) (w : World) : OwnC B CM.none (.agg #[.int .i64 0, .int .i64 0, .int .u64 0, .slice none 0 0, .bool false]) w := ⟨_, _, _, rfl, OwnI.empty _ _⟩
set_option maxRecDepth 100000 in
set_option maxHeartbeats 1000000 in
theorem cnew_any (D S x : Int) (w : World) (D0 : -9223372036854775808 ≤ D) (D1 : D ≤ 9223372036854775807) (S0 : -9223372036854775808 ≤ S) (S1 : S ≤ 9223372036854775807) :
    Calls Tryz.prog 112 #[.int .i64 D, .int .i64 S, .int .u64 x] w fun e w' => ∃ v, e = .returned (.tuple #[v, .int .i64 (newE D S)]) ∧ OwnC w.heap.size (newC D S x) v w' ∧ Below w.heap.size w w' := by
  have hs := fun w => isShape_any D S w
  unfold newC newE
  by_cases hE : shpB D S = true
  · obtain ⟨d0, d1, s0, s1, p0, p1⟩ := shp_bd hE
    rw [if_pos hE, if_pos hE]
    rw [hE] at hs
    obtain ⟨M, hM⟩ : ∃ M : Nat, D * S = (M : Int) := ⟨(D * S).toNat, by omega⟩
    have HQ := Lib.hid (show Value.int .i64 (D * S) = .int .i64 (M : Int) by rw [hM])
    have HM := Lib.hid (show List.replicate (D * S).toNat (0 : Int) = List.replicate M 0 by rw [hM, Int.toNat_natCast])
    have hM2 : M ≤ 512 := by omega
    rw [HM.out]
    clear hE hM HM
    go_enter Tryz.func112, Tryz.ntmps112
    go_wp2_with (first
      | (go_at_call 191; refine (hs _).mono ?_; rintro e w' ⟨rfl, rfl⟩)
      | (at_make; (refine wp_makeI rfl _ _ rfl M HQ.out HQ.out (by omega) ?_; intro w1 o1 hb1 hlt; have O1 := Lib.hid o1; have B1 := Lib.hid hb1; obtain ⟨hc1, hf1⟩ := bcell hb1; have hz1 : w.heap.size < w1.heap.size := (by simp at hlt; omega); clear o1 hb1)))
    have O2 := O1.out
    have hz : ∀ o, (w.alloc o).heap.size = w.heap.size + 1 := fun o => by simp
    rw [hz] at O2
    refine bodyPost_ret (v := .tuple #[.agg #[.int .i64 D, .int .i64 S, .int .u64 x, .slice (some ⟨w.heap.size + 1, 0, none⟩) M M, .bool false], .int .i64 0]) (by simp [results, Tryz.results112, go_sem, *]) rfl ⟨_, rfl, ⟨_, _, _, rfl, (O2.keep5 (Nat.lt_succ_self _) _ _ _ _ _).mono (Nat.le_succ _)⟩, ?_⟩
    exact bset5 (bgo (b1 _) B1.out) _ (Nat.le_refl _) _ _ _ _ _
  · have hE' : shpB D S = false := by simpa using hE
    rw [if_neg hE, if_neg hE]
    rw [hE'] at hs
    clear hE hE'
    go_enter Tryz.func112, Tryz.ntmps112
    go_wp2_with (go_at_call 191; refine (hs _).mono ?_; rintro e w' ⟨rfl, rfl⟩)
    refine bodyPost_ret (v := .tuple #[.agg #[.int .i64 0, .int .i64 0, .int .u64 0, .slice none 0 0, .bool false], .int .i64 5]) (by simp [results, Tryz.results112, go_sem, *]) rfl ⟨_, rfl, noneC_own _ _, ?_⟩
    first | exact b1 _ | exact bset5 (b1 _) _ (Nat.le_refl _) _ _ _ _ _
set_option maxRecDepth 100000 in
set_option maxHeartbeats 1000000 in
theorem rcnew_any (D S x : Int) (w : World) (D0 : -9223372036854775808 ≤ D) (D1 : D ≤ 9223372036854775807) (S0 : -9223372036854775808 ≤ S) (S1 : S ≤ 9223372036854775807) :
    Calls Tryz.prog 44 #[.int .i64 D, .int .i64 S, .int .u64 x] w fun e w' => ∃ v, e = .returned (.tuple #[v, .int .i64 (newE D S)]) ∧ OwnC w.heap.size (newC D S x) v w' ∧ Below w.heap.size w w' := by
  have hs := fun w => rwithin_any D 1 8 w
  have ht := fun w => rwithin_any S 1 64 w
  unfold newC newE
  by_cases hE : shpB D S = true
  · obtain ⟨d0, d1, s0, s1, p0, p1⟩ := shp_bd hE
    have hq : inW D 1 8 = true := by unfold inW; simp; omega
    have hr : inW S 1 64 = true := by unfold inW; simp; omega
    rw [hq] at hs
    rw [hr] at ht
    rw [if_pos hE, if_pos hE]
    obtain ⟨M, hM⟩ : ∃ M : Nat, D * S = (M : Int) := ⟨(D * S).toNat, by omega⟩
    have HQ := Lib.hid (show Value.int .i64 (D * S) = .int .i64 (M : Int) by rw [hM])
    have HM := Lib.hid (show List.replicate (D * S).toNat (0 : Int) = List.replicate M 0 by rw [hM, Int.toNat_natCast])
    have hM2 : M ≤ 512 := by omega
    rw [HM.out]
    clear hE hM HM hq hr
    go_enter Tryz.func44, Tryz.ntmps44
    go_wp2_with (first
      | (go_at_call 117; (with_reducible refine (hs _).mono ?_); rintro e w' ⟨rfl, rfl⟩)
      | (go_at_call 117; (with_reducible refine (ht _).mono ?_); rintro e w' ⟨rfl, rfl⟩)
      | (at_make; (refine wp_makeI rfl _ _ rfl M HQ.out HQ.out (by omega) ?_; intro w1 o1 hb1 hlt; have O1 := Lib.hid o1; have B1 := Lib.hid hb1; obtain ⟨hc1, hf1⟩ := bcell hb1; have hz1 : w.heap.size < w1.heap.size := (by simp at hlt; omega); clear o1 hb1)))
    have O2 := O1.out
    have hz : ∀ o, (w.alloc o).heap.size = w.heap.size + 1 := fun o => by simp
    rw [hz] at O2
    refine bodyPost_ret (v := .tuple #[.agg #[.int .i64 D, .int .i64 S, .int .u64 x, .slice (some ⟨w.heap.size + 1, 0, none⟩) M M, .bool false], .int .i64 0]) (by simp [results, Tryz.results44, go_sem, *]) rfl ⟨_, rfl, ⟨_, _, _, rfl, (O2.keep5 (Nat.lt_succ_self _) _ _ _ _ _).mono (Nat.le_succ _)⟩, ?_⟩
    exact bset5 (bgo (b1 _) B1.out) _ (Nat.le_refl _) _ _ _ _ _
  · have hE' : shpB D S = false := by simpa using hE
    have hq : inW D 1 8 = false ∨ inW D 1 8 = true ∧ inW S 1 64 = false := by unfold shpB at hE'; unfold inW; simp at hE' ⊢; omega
    rw [if_neg hE, if_neg hE]
    clear hE hE'
    rcases hq with hq | ⟨hq, hr⟩
    · rw [hq] at hs
      clear hq
      go_enter Tryz.func44, Tryz.ntmps44
      go_wp2_with (go_at_call 117; (with_reducible refine (hs _).mono ?_); rintro e w' ⟨rfl, rfl⟩)
      refine bodyPost_ret (v := .tuple #[.agg #[.int .i64 0, .int .i64 0, .int .u64 0, .slice none 0 0, .bool false], .int .i64 5]) (by simp [results, Tryz.results44, go_sem, *]) rfl ⟨_, rfl, noneC_own _ _, ?_⟩
      first | exact b1 _ | exact bset5 (b1 _) _ (Nat.le_refl _) _ _ _ _ _
    · rw [hq] at hs
      rw [hr] at ht
      clear hq hr
      go_enter Tryz.func44, Tryz.ntmps44
      go_wp2_with (first
        | (go_at_call 117; (with_reducible refine (hs _).mono ?_); rintro e w' ⟨rfl, rfl⟩)
        | (go_at_call 117; (with_reducible refine (ht _).mono ?_); rintro e w' ⟨rfl, rfl⟩))
      refine bodyPost_ret (v := .tuple #[.agg #[.int .i64 0, .int .i64 0, .int .u64 0, .slice none 0 0, .bool false], .int .i64 5]) (by simp [results, Tryz.results44, go_sem, *]) rfl ⟨_, rfl, noneC_own _ _, ?_⟩
      first | exact b1 _ | exact bset5 (b1 _) _ (Nat.le_refl _) _ _ _ _ _
end Go.Proofs.YtcndobdbjillpaaGreatDoor
namespace Go.Proofs.YtcndobdbjillpaaGreatDoor
open Go.RowKit
set_option linter.unusedVariables false
set_option linter.unusedSimpArgs false
/-- A sketch: precision, seed, registers. -/
structure LL where
  P : Int
  x : Int
  L : List Int
def LL.none : LL := ⟨0, 0, []⟩
/-- May P be a precision? -/
def prB (P : Int) : Bool := decide (2 ≤ P) && decide (P ≤ 8)
theorem prB_iff (P : Int) : prB P = true ↔ 2 ≤ P ∧ P ≤ 8 := by
  unfold prB
  rw [Bool.and_eq_true, decide_eq_true_eq, decide_eq_true_eq]
/-- May n be a register? -/
def regB (P n : Int) : Bool := decide (0 ≤ n) && decide (n ≤ 65 - P)
theorem regB_iff (P n : Int) : regB P n = true ↔ 0 ≤ n ∧ n ≤ 65 - P := by
  unfold regB
  rw [Bool.and_eq_true, decide_eq_true_eq, decide_eq_true_eq]
/-- How many registers. -/
def llN (P : Int) : Nat := 2 ^ P.toNat
theorem llN_bd {P : Int} (h : 2 ≤ P ∧ P ≤ 8) : 4 ≤ llN P ∧ llN P ≤ 256 := by
  obtain ⟨p, rfl⟩ : ∃ p : Nat, P = (p : Int) := ⟨P.toNat, by omega⟩
  have : p = 2 ∨ p = 3 ∨ p = 4 ∨ p = 5 ∨ p = 6 ∨ p = 7 ∨ p = 8 := by omega
  rcases this with rfl | rfl | rfl | rfl | rfl | rfl | rfl <;> decide
/-- What Validate says. -/
def llE (P : Int) (L : List Int) : Int := if prB P = false then 5 else if (L.length : Int) ≠ (llN P : Nat) then 18 else if L.all (regB P) = true then 0 else 5
theorem llE_shp {P : Int} {L : List Int} (h : prB P = false) : llE P L = 5 := by unfold llE; rw [if_pos h]
theorem llE_len {P : Int} {L : List Int} (h : prB P = true) (h2 : ¬ L.length = llN P) : llE P L = 18 := by unfold llE; rw [if_neg (by rw [h]; simp), if_pos (by omega)]
theorem lall_getD {p : Int → Bool} {L : List Int} (h : ∀ j, j < L.length → p (L.getD j 0) = true) : L.all p = true := by
  rw [List.all_eq_true]
  intro n hn
  obtain ⟨j, hj, rfl⟩ := List.getElem_of_mem hn
  have := h j hj
  simpa [List.getD, hj] using this
theorem lnot_all_getD {p : Int → Bool} {L : List Int} {j : Nat} (hj : j < L.length) (h : p (L.getD j 0) = false) : L.all p = false := by
  rw [List.all_eq_false]
  refine ⟨L[j], List.getElem_mem hj, ?_⟩
  simpa [List.getD, hj] using h
theorem llE_bad {P : Int} {L : List Int} (h : prB P = true) (h2 : L.length = llN P) {j : Nat} (hj : j < L.length) (h3 : regB P (L.getD j 0) = false) : llE P L = 5 := by
  unfold llE
  rw [if_neg (by rw [h]; simp), if_neg (by rw [h2]; simp), if_neg (by rw [lnot_all_getD hj h3]; simp)]
theorem llE_all {P : Int} {L : List Int} (h : prB P = true) (h2 : L.length = llN P) (h3 : ∀ j, j < L.length → regB P (L.getD j 0) = true) : llE P L = 0 := by
  unfold llE
  rw [if_neg (by rw [h]; simp), if_neg (by rw [h2]; simp), if_pos (lall_getD h3)]
/-- A new sketch, its error. -/
def newL (P x : Int) : LL := if prB P = true then ⟨P, x, List.replicate (llN P) 0⟩ else LL.none
def newLE (P : Int) : Int := if prB P = true then 0 else 5
/-- A sketch as a value. -/
def OwnL (B : Nat) (c : LL) (v : Value) (w : World) : Prop := ∃ a n cap, v = .agg #[.int .i64 c.P, .int .u64 c.x, .slice a n cap] ∧ OwnI B c.L (.slice a n cap) w
def RdL (c : LL) (v : Value) (w : World) : Prop := ∃ a n cap, v = .agg #[.int .i64 c.P, .int .u64 c.x, .slice a n cap] ∧ RdI c.L (.slice a n cap) w
theorem OwnL.rd {B : Nat} {c : LL} {v : Value} {w : World} (h : OwnL B c v w) : RdL c v w := by
  obtain ⟨a, n, cap, hv, ho⟩ := h
  exact ⟨a, n, cap, hv, ho.rd⟩
theorem RdL.below {c : LL} {v : Value} {w w' : World} (h : RdL c v w) (hb : Below w.heap.size w w') : RdL c v w' := by
  obtain ⟨a, n, cap, hv, ho⟩ := h
  exact ⟨a, n, cap, hv, ho.below hb⟩
theorem noneL_own (B : Nat) (w : World) : OwnL B LL.none (.agg #[.int .i64 0, .int .u64 0, .slice none 0 0]) w := ⟨_, _, _, rfl, OwnI.empty _ _⟩
theorem bset3 {a w : World} (h : Below a.heap.size a w) (k : Nat) (hk : a.heap.size ≤ k) (v0 v1 v2 : Value) :
    Below a.heap.size a (((w.setCell ⟨k, 0, none⟩ v0).setCell ⟨k, 1, none⟩ v1).setCell ⟨k, 2, none⟩ v2) :=
  bset (bset (bset h k 0 v0 hk) k 1 v1 hk) k 2 v2 hk
theorem OwnI.keep3 {B k : Nat} {L : List Int} {v : Value} {w : World} (h : OwnI B L v w) (hk : k < B) (v0 v1 v2 : Value) :
    OwnI B L v (((w.setCell ⟨k, 0, none⟩ v0).setCell ⟨k, 1, none⟩ v1).setCell ⟨k, 2, none⟩ v2) :=
  ((h.keep hk 0 v0).keep hk 1 v1).keep hk 2 v2
/-- A struct of three cells in memory: a sketch. -/
def LSt (g : Nat) (P x : Int) (v : Value) (w : World) : Prop :=
  (w.cell? ⟨g, 0, none⟩ = some (.int .i64 P) ∧ w.cell? ⟨g, 1, none⟩ = some (.int .u64 x) ∧ w.cell? ⟨g, 2, none⟩ = some v) ∧
    w.frozen? ⟨g, 0, none⟩ = false ∧ w.frozen? ⟨g, 1, none⟩ = false ∧ w.frozen? ⟨g, 2, none⟩ = false
theorem LSt.keep {g : Nat} {P x : Int} {v : Value} {w w' : World} (h : LSt g P x v w) (hb : w'.heap[g]? = w.heap[g]?) : LSt g P x v w' := by
  obtain ⟨⟨h0, h1, h2⟩, f0, f1, f2⟩ := h
  have hc : ∀ o, w'.cell? ⟨g, o, none⟩ = w.cell? ⟨g, o, none⟩ := fun o => World.cell?_of_block (w := w) (a := ⟨g, o, none⟩) hb
  have hf : ∀ o, w'.frozen? ⟨g, o, none⟩ = w.frozen? ⟨g, o, none⟩ := fun o => World.frozen?_of_block (w := w) (a := ⟨g, o, none⟩) hb
  exact ⟨⟨(hc _).trans h0, (hc _).trans h1, (hc _).trans h2⟩, (hf _).trans f0, (hf _).trans f1, (hf _).trans f2⟩
theorem LSt.below {g : Nat} {P x : Int} {v : Value} {w w' : World} (h : LSt g P x v w) {B : Nat} (hb : Below B w w') (hg : g < B) : LSt g P x v w' := h.keep (hb.block g hg)
theorem LSt.size {g : Nat} {P x : Int} {v : Value} {w : World} (h : LSt g P x v w) : g < w.heap.size := block_lt_of_cell h.1.1
theorem LSt.new (P x : Int) (v : Value) (t : TypeId) (w : World) : LSt w.heap.size P x v (w.alloc (.cells #[.int .i64 P, .int .u64 x, v] t)) := by
  exact ⟨⟨by go_simp, by go_simp, by go_simp⟩, by go_simp, by go_simp, by go_simp⟩
theorem LSt.drewM {g : Nat} {P x : Int} {v : Value} {w : World} (h : LSt g P x v w) (j : Nat) : LSt g P x v (w.drewN j) := h
end Go.Proofs.YtcndobdbjillpaaGreatDoor
