/- CmNew, Ll, MapE, TopN, OrdC: in one text. -/
import Derived.Test.YtjibbnknliamkaaGreatDoorPg03
import Derived.Test.YtjibbnknliamkaaGreatDoorPg02
import Derived.Test.YtjibbnknliamkaaGreatDoorPg00
import Derived.Test.YtjibbnknliamkaaGreatDoorPg01
import Derived.Lib.Strings
import Derived.Lib.Bytealg
import Derived.Maps.OwnSet
import Derived.StringKeys
import Derived.Carry
namespace Go.Proofs.YtjibbnknliamkaaGreatDoor
open Go.RowKit
set_option linter.unusedVariables false
set_option linter.unusedSimpArgs false
/-- A new sketch: its cells, its error. -/
def newC (D S x : Int) : CM := if shpB D S = true then ⟨D, S, x, List.replicate (D * S).toNat 0, false⟩ else CM.none
def newE (D S : Int) : Int := if shpB D S = true then 0 else 5
/-- A sketch as a value: its cells are the call's own. -/
def OwnC (B : Nat) (c : CM) (v : Value) (w : World) : Prop := ∃ a n cap, v = .agg #[.int .i64 c.D, .int .i64 c.S, .int .u64 c.x, .slice a n cap, .bool c.s] ∧ OwnI B c.L (.slice a n cap) w
/-- A sketch as a value, to be read. -/
def RdC (c : CM) (v : Value) (w : World) : Prop := ∃ a n cap, v = .agg #[.int .i64 c.D, .int .i64 c.S, .int .u64 c.x, .slice a n cap, .bool c.s] ∧ RdI c.L (.slice a n cap) w
theorem OwnC.rd {B : Nat} {c : CM} {v : Value} {w : World} (h : OwnC B c v w) : RdC c v w := by
  obtain ⟨a, n, cap, hv, ho⟩ := h
  exact ⟨a, n, cap, hv, ho.rd⟩
theorem RdC.below {c : CM} {v : Value} {w w' : World} (h : RdC c v w) (hb : Below w.heap.size w w') : RdC c v w' := by
  obtain ⟨a, n, cap, hv, ho⟩ := h
  exact ⟨a, n, cap, hv, ho.below hb⟩
theorem bset5 {a w : World} (h : Below a.heap.size a w) (k : Nat) (hk : a.heap.size ≤ k) (v0 v1 v2 v3 v4 : Value) :
    Below a.heap.size a (((((w.setCell ⟨k, 0, none⟩ v0).setCell ⟨k, 1, none⟩ v1).setCell ⟨k, 2, none⟩ v2).setCell ⟨k, 3, none⟩ v3).setCell ⟨k, 4, none⟩ v4) :=
  bset (bset (bset (bset (bset h k 0 v0 hk) k 1 v1 hk) k 2 v2 hk) k 3 v3 hk) k 4 v4 hk
theorem OwnI.keep5 {B k : Nat} {L : List Int} {v : Value} {w : World} (h : OwnI B L v w) (hk : k < B) (v0 v1 v2 v3 v4 : Value) :
    OwnI B L v (((((w.setCell ⟨k, 0, none⟩ v0).setCell ⟨k, 1, none⟩ v1).setCell ⟨k, 2, none⟩ v2).setCell ⟨k, 3, none⟩ v3).setCell ⟨k, 4, none⟩ v4) :=
  ((((h.keep hk 0 v0).keep hk 1 v1).keep hk 2 v2).keep hk 3 v3).keep hk 4 v4
theorem noneC_own (B : Nat) (w : World) : OwnC B CM.none (.agg #[.int .i64 0, .int .i64 0, .int .u64 0, .slice none 0 0, .bool false]) w := ⟨_, _, _, rfl, OwnI.empty _ _⟩
set_option maxRecDepth 100000 in
set_option maxHeartbeats 1000000 in
theorem cnew_any (D S x : Int) (w : World) (D0 : -9223372036854775808 ≤ D) (D1 : D ≤ 9223372036854775807) (S0 : -9223372036854775808 ≤ S) (S1 : S ≤ 9223372036854775807) :
    Calls Tryz.prog 176 #[.int .i64 D, .int .i64 S, .int .u64 x] w fun e w' => ∃ v, e = .returned (.tuple #[v, .int .i64 (newE D S)]) ∧ OwnC w.heap.size (newC D S x) v w' ∧ Below w.heap.size w w' := by
  have hs := fun w => isShape_any D S w
  unfold newC newE
  by_cases hE : shpB D S = true
  · obtain ⟨d0, d1, s0, s1, p0, p1⟩ := shp_bd hE
    rw [if_pos hE, if_pos hE]
    rw [hE] at hs
    obtain ⟨M, hM⟩ : ∃ M : Nat, D * S = (M : Int) := ⟨(D * S).toNat, by omega⟩
    have HQ := Lib.hid (show Value.int .i64 (D * S) = .int .i64 (M : Int) by rw [hM])
    have HM := Lib.hid (show List.replicate (D * S).toNat (0 : Int) = List.replicate M 0 by rw [hM, Int.toNat_natCast])
    have hM2 : M ≤ 512 := by omega
    rw [HM.out]
    clear hE hM HM
    go_enter Tryz.func176, Tryz.ntmps176
    go_wp2_with (first
      | (go_at_call 139; refine (hs _).mono ?_; rintro e w' ⟨rfl, rfl⟩)
      | (at_make; (refine wp_makeI rfl _ _ rfl M HQ.out HQ.out (by omega) ?_; intro w1 o1 hb1 hlt; have O1 := Lib.hid o1; have B1 := Lib.hid hb1; obtain ⟨hc1, hf1⟩ := bcell hb1; have hz1 : w.heap.size < w1.heap.size := (by simp at hlt; omega); clear o1 hb1)))
    have O2 := O1.out
    have hz : ∀ o, (w.alloc o).heap.size = w.heap.size + 1 := fun o => by simp
    rw [hz] at O2
    refine bodyPost_ret (v := .tuple #[.agg #[.int .i64 D, .int .i64 S, .int .u64 x, .slice (some ⟨w.heap.size + 1, 0, none⟩) M M, .bool false], .int .i64 0]) (by simp [results, Tryz.results176, go_sem, *]) rfl ⟨_, rfl, ⟨_, _, _, rfl, (O2.keep5 (Nat.lt_succ_self _) _ _ _ _ _).mono (Nat.le_succ _)⟩, ?_⟩
    exact bset5 (bgo (b1 _) B1.out) _ (Nat.le_refl _) _ _ _ _ _
  · have hE' : shpB D S = false := by simpa using hE
    rw [if_neg hE, if_neg hE]
    rw [hE'] at hs
    clear hE hE'
    go_enter Tryz.func176, Tryz.ntmps176
    go_wp2_with (go_at_call 139; refine (hs _).mono ?_; rintro e w' ⟨rfl, rfl⟩)
    refine bodyPost_ret (v := .tuple #[.agg #[.int .i64 0, .int .i64 0, .int .u64 0, .slice none 0 0, .bool false], .int .i64 5]) (by simp [results, Tryz.results176, go_sem, *]) rfl ⟨_, rfl, noneC_own _ _, ?_⟩
    first | exact b1 _ | exact bset5 (b1 _) _ (Nat.le_refl _) _ _ _ _ _
set_option maxRecDepth 100000 in
set_option maxHeartbeats 1000000 in
theorem rcnew_any (D S x : Int) (w : World) (D0 : -9223372036854775808 ≤ D) (D1 : D ≤ 9223372036854775807) (S0 : -9223372036854775808 ≤ S) (S1 : S ≤ 9223372036854775807) :
    Calls Tryz.prog 49 #[.int .i64 D, .int .i64 S, .int .u64 x] w fun e w' => ∃ v, e = .returned (.tuple #[v, .int .i64 (newE D S)]) ∧ OwnC w.heap.size (newC D S x) v w' ∧ Below w.heap.size w w' := by
  have hs := fun w => rwithin_any D 1 8 w
  have ht := fun w => rwithin_any S 1 64 w
  unfold newC newE
  by_cases hE : shpB D S = true
  · obtain ⟨d0, d1, s0, s1, p0, p1⟩ := shp_bd hE
    have hq : inW D 1 8 = true := by unfold inW; simp; omega
    have hr : inW S 1 64 = true := by unfold inW; simp; omega
    rw [hq] at hs
    rw [hr] at ht
    rw [if_pos hE, if_pos hE]
    obtain ⟨M, hM⟩ : ∃ M : Nat, D * S = (M : Int) := ⟨(D * S).toNat, by omega⟩
    have HQ := Lib.hid (show Value.int .i64 (D * S) = .int .i64 (M : Int) by rw [hM])
    have HM := Lib.hid (show List.replicate (D * S).toNat (0 : Int) = List.replicate M 0 by rw [hM, Int.toNat_natCast])
    have hM2 : M ≤ 512 := by omega
    rw [HM.out]
    clear hE hM HM hq hr
    go_enter Tryz.func49, Tryz.ntmps49
    go_wp2_with (first
      | (go_at_call 87; (with_reducible refine (hs _).mono ?_); rintro e w' ⟨rfl, rfl⟩)
      | (go_at_call 87; (with_reducible refine (ht _).mono ?_); rintro e w' ⟨rfl, rfl⟩)
      | (at_make; (refine wp_makeI rfl _ _ rfl M HQ.out HQ.out (by omega) ?_; intro w1 o1 hb1 hlt; have O1 := Lib.hid o1; have B1 := Lib.hid hb1; obtain ⟨hc1, hf1⟩ := bcell hb1; have hz1 : w.heap.size < w1.heap.size := (by simp at hlt; omega); clear o1 hb1)))
    have O2 := O1.out
    have hz : ∀ o, (w.alloc o).heap.size = w.heap.size + 1 := fun o => by simp
    rw [hz] at O2
    refine bodyPost_ret (v := .tuple #[.agg #[.int .i64 D, .int .i64 S, .int .u64 x, .slice (some ⟨w.heap.size + 1, 0, none⟩) M M, .bool false], .int .i64 0]) (by simp [results, Tryz.results49, go_sem, *]) rfl ⟨_, rfl, ⟨_, _, _, rfl, (O2.keep5 (Nat.lt_succ_self _) _ _ _ _ _).mono (Nat.le_succ _)⟩, ?_⟩
    exact bset5 (bgo (b1 _) B1.out) _ (Nat.le_refl _) _ _ _ _ _
  · have hE' : shpB D S = false := by simpa using hE
    have hq : inW D 1 8 = false ∨ inW D 1 8 = true ∧ inW S 1 64 = false := by unfold shpB at hE'; unfold inW; simp at hE' ⊢; omega
    rw [if_neg hE, if_neg hE]
    clear hE hE'
    rcases hq with hq | ⟨hq, hr⟩
    · rw [hq] at hs
      clear hq
      go_enter Tryz.func49, Tryz.ntmps49
      go_wp2_with (go_at_call 87; (with_reducible refine (hs _).mono ?_); rintro e w' ⟨rfl, rfl⟩)
      refine bodyPost_ret (v := .tuple #[.agg #[.int .i64 0, .int .i64 0, .int .u64 0, .slice none 0 0, .bool false], .int .i64 5]) (by simp [results, Tryz.results49, go_sem, *]) rfl ⟨_, rfl, noneC_own _ _, ?_⟩
      first | exact b1 _ | exact bset5 (b1 _) _ (Nat.le_refl _) _ _ _ _ _
    · rw [hq] at hs
      rw [hr] at ht
      clear hq hr
      go_enter Tryz.func49, Tryz.ntmps49
      go_wp2_with (first
        | (go_at_call 87; (with_reducible refine (hs _).mono ?_); rintro e w' ⟨rfl, rfl⟩)
        | (go_at_call 87; (with_reducible refine (ht _).mono ?_); rintro e w' ⟨rfl, rfl⟩))
      refine bodyPost_ret (v := .tuple #[.agg #[.int .i64 0, .int .i64 0, .int .u64 0, .slice none 0 0, .bool false], .int .i64 5]) (by simp [results, Tryz.results49, go_sem, *]) rfl ⟨_, rfl, noneC_own _ _, ?_⟩
      first | exact b1 _ | exact bset5 (b1 _) _ (Nat.le_refl _) _ _ _ _ _
end Go.Proofs.YtjibbnknliamkaaGreatDoor
namespace Go.Proofs.YtjibbnknliamkaaGreatDoor
open Go.RowKit
set_option linter.unusedVariables false
set_option linter.unusedSimpArgs false
/-- A sketch: precision, seed, registers. -/
structure LL where
  P : Int
  x : Int
  L : List Int
def LL.none : LL := ⟨0, 0, []⟩
/-- May P be a precision? -/
def prB (P : Int) : Bool := decide (2 ≤ P) && decide (P ≤ 8)
theorem prB_iff (P : Int) : prB P = true ↔ 2 ≤ P ∧ P ≤ 8 := by
  unfold prB
  rw [Bool.and_eq_true, decide_eq_true_eq, decide_eq_true_eq]
/-- May n be a register? -/
def regB (P n : Int) : Bool := decide (0 ≤ n) && decide (n ≤ 65 - P)
theorem regB_iff (P n : Int) : regB P n = true ↔ 0 ≤ n ∧ n ≤ 65 - P := by
  unfold regB
  rw [Bool.and_eq_true, decide_eq_true_eq, decide_eq_true_eq]
/-- How many registers. -/
def llN (P : Int) : Nat := 2 ^ P.toNat
theorem llN_bd {P : Int} (h : 2 ≤ P ∧ P ≤ 8) : 4 ≤ llN P ∧ llN P ≤ 256 := by
  obtain ⟨p, rfl⟩ : ∃ p : Nat, P = (p : Int) := ⟨P.toNat, by omega⟩
  have : p = 2 ∨ p = 3 ∨ p = 4 ∨ p = 5 ∨ p = 6 ∨ p = 7 ∨ p = 8 := by omega
  rcases this with rfl | rfl | rfl | rfl | rfl | rfl | rfl <;> decide
/-- What Validate says. -/
def llE (P : Int) (L : List Int) : Int := if prB P = false then 5 else if (L.length : Int) ≠ (llN P : Nat) then 18 else if L.all (regB P) = true then 0 else 5
theorem llE_shp {P : Int} {L : List Int} (h : prB P = false) : llE P L = 5 := by unfold llE; rw [if_pos h]
theorem llE_len {P : Int} {L : List Int} (h : prB P = true) (h2 : ¬ L.length = llN P) : llE P L = 18 := by unfold llE; rw [if_neg (by rw [h]; simp), if_pos (by omega)]
theorem lall_getD {p : Int → Bool} {L : List Int} (h : ∀ j, j < L.length → p (L.getD j 0) = true) : L.all p = true := by
  rw [List.all_eq_true]
  intro n hn
  obtain ⟨j, hj, rfl⟩ := List.getElem_of_mem hn
  have := h j hj
  simpa [List.getD, hj] using this
theorem lnot_all_getD {p : Int → Bool} {L : List Int} {j : Nat} (hj : j < L.length) (h : p (L.getD j 0) = false) : L.all p = false := by
  rw [List.all_eq_false]
  refine ⟨L[j], List.getElem_mem hj, ?_⟩
  simpa [List.getD, hj] using h
theorem llE_bad {P : Int} {L : List Int} (h : prB P = true) (h2 : L.length = llN P) {j : Nat} (hj : j < L.length) (h3 : regB P (L.getD j 0) = false) : llE P L = 5 := by
  unfold llE
  rw [if_neg (by rw [h]; simp), if_neg (by rw [h2]; simp), if_neg (by rw [lnot_all_getD hj h3]; simp)]
theorem llE_all {P : Int} {L : List Int} (h : prB P = true) (h2 : L.length = llN P) (h3 : ∀ j, j < L.length → regB P (L.getD j 0) = true) : llE P L = 0 := by
  unfold llE
  rw [if_neg (by rw [h]; simp), if_neg (by rw [h2]; simp), if_pos (lall_getD h3)]
/-- A new sketch, its error. -/
def newL (P x : Int) : LL := if prB P = true then ⟨P, x, List.replicate (llN P) 0⟩ else LL.none
def newLE (P : Int) : Int := if prB P = true then 0 else 5
/-- A sketch as a value. -/
def OwnL (B : Nat) (c : LL) (v : Value) (w : World) : Prop := ∃ a n cap, v = .agg #[.int .i64 c.P, .int .u64 c.x, .slice a n cap] ∧ OwnI B c.L (.slice a n cap) w
def RdL (c : LL) (v : Value) (w : World) : Prop := ∃ a n cap, v = .agg #[.int .i64 c.P, .int .u64 c.x, .slice a n cap] ∧ RdI c.L (.slice a n cap) w
theorem OwnL.rd {B : Nat} {c : LL} {v : Value} {w : World} (h : OwnL B c v w) : RdL c v w := by
  obtain ⟨a, n, cap, hv, ho⟩ := h
  exact ⟨a, n, cap, hv, ho.rd⟩
theorem RdL.below {c : LL} {v : Value} {w w' : World} (h : RdL c v w) (hb : Below w.heap.size w w') : RdL c v w' := by
  obtain ⟨a, n, cap, hv, ho⟩ := h
  exact ⟨a, n, cap, hv, ho.below hb⟩
theorem noneL_own (B : Nat) (w : World) : OwnL B LL.none (.agg #[.int .i64 0, .int .u64 0, .slice none 0 0]) w := ⟨_, _, _, rfl, OwnI.empty _ _⟩
theorem bset3 {a w : World} (h : Below a.heap.size a w) (k : Nat) (hk : a.heap.size ≤ k) (v0 v1 v2 : Value) :
    Below a.heap.size a (((w.setCell ⟨k, 0, none⟩ v0).setCell ⟨k, 1, none⟩ v1).setCell ⟨k, 2, none⟩ v2) :=
  bset (bset (bset h k 0 v0 hk) k 1 v1 hk) k 2 v2 hk
theorem OwnI.keep3 {B k : Nat} {L : List Int} {v : Value} {w : World} (h : OwnI B L v w) (hk : k < B) (v0 v1 v2 : Value) :
    OwnI B L v (((w.setCell ⟨k, 0, none⟩ v0).setCell ⟨k, 1, none⟩ v1).setCell ⟨k, 2, none⟩ v2) :=
  ((h.keep hk 0 v0).keep hk 1 v1).keep hk 2 v2
/-- A struct of three cells in memory: a sketch. -/
def LSt (g : Nat) (P x : Int) (v : Value) (w : World) : Prop :=
  (w.cell? ⟨g, 0, none⟩ = some (.int .i64 P) ∧ w.cell? ⟨g, 1, none⟩ = some (.int .u64 x) ∧ w.cell? ⟨g, 2, none⟩ = some v) ∧
    w.frozen? ⟨g, 0, none⟩ = false ∧ w.frozen? ⟨g, 1, none⟩ = false ∧ w.frozen? ⟨g, 2, none⟩ = false
theorem LSt.keep {g : Nat} {P x : Int} {v : Value} {w w' : World} (h : LSt g P x v w) (hb : w'.heap[g]? = w.heap[g]?) : LSt g P x v w' := by
  obtain ⟨⟨h0, h1, h2⟩, f0, f1, f2⟩ := h
  have hc : ∀ o, w'.cell? ⟨g, o, none⟩ = w.cell? ⟨g, o, none⟩ := fun o => World.cell?_of_block (w := w) (a := ⟨g, o, none⟩) hb
  have hf : ∀ o, w'.frozen? ⟨g, o, none⟩ = w.frozen? ⟨g, o, none⟩ := fun o => World.frozen?_of_block (w := w) (a := ⟨g, o, none⟩) hb
  exact ⟨⟨(hc _).trans h0, (hc _).trans h1, (hc _).trans h2⟩, (hf _).trans f0, (hf _).trans f1, (hf _).trans f2⟩
theorem LSt.below {g : Nat} {P x : Int} {v : Value} {w w' : World} (h : LSt g P x v w) {B : Nat} (hb : Below B w w') (hg : g < B) : LSt g P x v w' := h.keep (hb.block g hg)
theorem LSt.size {g : Nat} {P x : Int} {v : Value} {w : World} (h : LSt g P x v w) : g < w.heap.size := block_lt_of_cell h.1.1
theorem LSt.new (P x : Int) (v : Value) (t : TypeId) (w : World) : LSt w.heap.size P x v (w.alloc (.cells #[.int .i64 P, .int .u64 x, v] t)) := by
  exact ⟨⟨by go_simp, by go_simp, by go_simp⟩, by go_simp, by go_simp, by go_simp⟩
theorem LSt.drewM {g : Nat} {P x : Int} {v : Value} {w : World} (h : LSt g P x v w) (j : Nat) : LSt g P x v (w.drewN j) := h
end Go.Proofs.YtjibbnknliamkaaGreatDoor
namespace Go.Proofs.YtjibbnknliamkaaGreatDoor
open Go.RowKit Go.Maps
set_option linter.unusedVariables false
set_option linter.unusedSimpArgs false
def sameK (a b : ByteArray) : Bool := a.toList == b.toList
theorem data_inj {a b : ByteArray} (h : a.data.toList = b.data.toList) : a = b := by
  cases a; cases b
  simp only [ByteArray.mk.injEq]
  exact Array.toList_inj.1 h
theorem sameK_iff (a b : ByteArray) : sameK a b = true ↔ a = b := by
  unfold sameK
  rw [Lib.toList_data, Lib.toList_data, beq_iff_eq]
  exact ⟨data_inj, fun h => by rw [h]⟩
theorem sameK_self (a : ByteArray) : sameK a a = true := (sameK_iff a a).2 rfl
theorem sameK_comm (a b : ByteArray) : sameK a b = sameK b a := by
  rw [Bool.eq_iff_iff, sameK_iff, sameK_iff]
  exact eq_comm
/-- A key has an entry. -/
def hasK (L : List Ent) (k : ByteArray) : Bool := L.any (fun y => sameK y.k k)
theorem take_succE {L : List Ent} {j : Nat} (h : j < L.length) : L.take (j + 1) = L.take j ++ [L.getD j Ent.z] := by
  rw [List.take_succ_eq_append_getElem h]
  simp [List.getD, h]
theorem hasK_succ {L : List Ent} {j : Nat} (h : j < L.length) (k : ByteArray) : hasK (L.take (j + 1)) k = (hasK (L.take j) k || sameK (L.getD j Ent.z).k k) := by
  unfold hasK
  rw [take_succE h, List.any_append]
  simp
theorem law_str : Keyed Tryz.prog 9 := string_keyed Tryz.underlying9
theorem zero_bool (w : World) : (zeroValue 4).run Tryz.prog w = .ok (.bool false) w := by kernel_rfl
theorem key_str {k : ByteArray} (h : k.size ≤ maxLen) : keyOf Tryz.prog 9 (.string k) = some (.string k.data.toList) := Go.WideMaps.keyOf_string_mk Tryz.underlying9 h
theorem ne_key {a b : ByteArray} (h : sameK a b = false) : (Lit.string b.data.toList) ≠ (Lit.string a.data.toList) := by
  intro e
  injection e with e
  have := (sameK_iff a b).2 (data_inj e).symm
  rw [h] at this
  cases this
theorem bool_inv {H : Type} {P : Program} {e : TypeId} (he : P.underlying e = some .bool) {v : Value} {x : Bool} {ps : List MemPlace} (h : plainElem (H := H) P e v = some (.lit (.bool x), ps)) : v = .bool x := by
  unfold plainElem at h
  rw [he] at h
  cases v <;> simp at h
  rw [h.1]
section
variable {w : World} {ops : Array Oper} {rest : List Oper} {o : Oper} {a : Act} {Q : Exit → Act → World → Prop}
/-- Block b holds the keys of the first j entries. -/
def SeenM (L : List Ent) (j b : Nat) (w : World) : Prop :=
  ∃ (D : DataW Unit) (n : Nat), n ≤ j ∧ w.ownsMap Tryz.prog 9 (plainElem Tryz.prog 4) b n D ∧ ∀ k : ByteArray, D.atKey (.string k.data.toList) (.lit (.bool false)) = .lit (.bool (hasK (L.take j) k))
theorem SeenM.lt {L : List Ent} {j b : Nat} {w : World} (h : SeenM L j b w) : b < w.heap.size := by
  obtain ⟨D, n, hn, ho, hk⟩ := h
  exact ho.lt
theorem ownsMap_blk {H : Type} {P : Program} {k : TypeId} {R : Value → Option (DataW H × List MemPlace)} {b n : Nat} {D : DataW H} {w w' : World} (h : w.ownsMap P k R b n D) (hb : w'.heap[b]? = w.heap[b]?) : w'.ownsMap P k R b n D := by
  obtain ⟨es, clock, hb', r⟩ := h
  exact ⟨es, clock, hb.trans hb', r⟩
theorem SeenM.below {L : List Ent} {j b : Nat} {w w' : World} (h : SeenM L j b w) (hb : Below w.heap.size w w') : SeenM L j b w' := by
  have hl := h.lt
  obtain ⟨D, n, hn, ho, hk⟩ := h
  exact ⟨D, n, hn, ownsMap_blk ho (hb.block b hl), hk⟩
theorem SeenM.new (L : List Ent) (w : World) : SeenM L 0 w.heap.size (w.alloc (.map #[] 0)) := ⟨.map [], 0, Nat.le_refl _, World.ownsMap_made _ _ _ _, fun k => rfl⟩
theorem wp_seen_look (hgd : o.guard = none) (m x : Operand) (hop : o.op = Op.lookup 180 m x false) (L : List Ent) (j b : Nat) (k : ByteArray) (hm : a.eval m = .map (some b)) (hx : a.eval x = .string k)
    (h : SeenM L j b w) (hk : k.size ≤ maxLen) (hK : wpList Tryz.prog ops Q rest (a.put o.dst (.bool (hasK (L.take j) k))) w) : wpList Tryz.prog ops Q (o :: rest) a w := by
  obtain ⟨D, n, hn, ho, hD⟩ := h
  obtain ⟨v, ps, hrun, hR⟩ := ho.lookup law_str Tryz.underlying180 (zero_bool w) (plainElem_bool Tryz.underlying4 false) (key_str hk)
  rw [hD] at hR
  have hv := bool_inv Tryz.underlying4 hR
  subst hv
  refine wpList_plain hgd fun K' hK' => ?_
  unfold Oper.wp
  simp [execOp, hop, hm, hx, hrun, Result.andThen]
  exact hK' _ _ hK
theorem wp_seen_put (hgd : o.guard = none) (m x v : Operand) (hop : o.op = Op.mapUpdate 180 m x v) (L : List Ent) (j b : Nat) (k0 : ByteArray) (hkk : (L.getD j Ent.z).k = k0) (hj : j < L.length) (hm : a.eval m = .map (some b)) (hx : a.eval x = .string k0) (hv : a.eval v = .bool true)
    (h : SeenM L j b w) (hk : k0.size ≤ maxLen) (hjm : j < maxLen) (hK : ∀ w', SeenM L (j + 1) b w' → w.grownBy w' (some b) → wpList Tryz.prog ops Q rest (a.put o.dst undef) w') : wpList Tryz.prog ops Q (o :: rest) a w := by
  subst hkk
  obtain ⟨D, n, hn, ho, hD⟩ := h
  refine wpList_mapUpdate_own w hgd m x v 180 hop 9 4 law_str Tryz.underlying180 (plainElem Tryz.prog 4) b n D hm ho (by omega) _ _ _ hx hv (key_str hk) _ [] (plainElem_bool Tryz.underlying4 true) ?_
  intro w' h1 h2
  refine hK w' ⟨_, n + 1, by omega, h1, fun k => ?_⟩ h2
  rw [hasK_succ hj]
  cases hs : sameK (L.getD j Ent.z).k k with
  | true =>
    have := (sameK_iff _ _).1 hs
    subst this
    rw [atKey_put_same ho.isMap (by simp [WideAt.IsKeyLit])]
    simp
  | false =>
    rw [atKey_put_other (ne_key hs), hD, Bool.or_false]
end
end Go.Proofs.YtjibbnknliamkaaGreatDoor
namespace Go.Proofs.YtjibbnknliamkaaGreatDoor
open Go.RowKit
set_option linter.unusedVariables false
set_option linter.unusedSimpArgs false
structure TP where
  S : Int
  T : Int
  L : List Ent
  s : Bool
def TP.none : TP := ⟨0, 0, [], false⟩
/-- A summary that can be read. -/
def RdT (t : TP) (v : Value) (w : World) : Prop := ∃ a n cap, v = .agg #[.int .i64 t.S, .int .i64 t.T, .slice a n cap, .bool t.s] ∧ RdE t.L (.slice a n cap) w
theorem RdT.below {t : TP} {v : Value} {w w' : World} (h : RdT t v w) (hb : Below w.heap.size w w') : RdT t v w' := by
  obtain ⟨a, n, cap, rfl, h⟩ := h
  exact ⟨a, n, cap, rfl, h.below hb⟩
/-- A summary of the call's own. -/
def OwnT (B : Nat) (t : TP) (v : Value) (w : World) : Prop := ∃ a n cap, v = .agg #[.int .i64 t.S, .int .i64 t.T, .slice a n cap, .bool t.s] ∧ OwnE B t.L (.slice a n cap) w
theorem OwnT.rd {B : Nat} {t : TP} {v : Value} {w : World} (h : OwnT B t v w) : RdT t v w := by
  obtain ⟨a, n, cap, rfl, h⟩ := h
  exact ⟨a, n, cap, rfl, h.rd⟩
theorem OwnT.below {B : Nat} {t : TP} {v : Value} {w w' : World} (h : OwnT B t v w) (hb : Below w.heap.size w w') : OwnT B t v w' := by
  obtain ⟨a, n, cap, rfl, h⟩ := h
  exact ⟨a, n, cap, rfl, h.below hb⟩
/-- A struct of four cells in memory: a summary. -/
def TopS (g : Nat) (S T : Int) (v : Value) (s : Bool) (w : World) : Prop :=
  (w.cell? ⟨g, 0, none⟩ = some (.int .i64 S) ∧ w.cell? ⟨g, 1, none⟩ = some (.int .i64 T) ∧ w.cell? ⟨g, 2, none⟩ = some v ∧ w.cell? ⟨g, 3, none⟩ = some (.bool s)) ∧
    w.frozen? ⟨g, 0, none⟩ = false ∧ w.frozen? ⟨g, 1, none⟩ = false ∧ w.frozen? ⟨g, 2, none⟩ = false ∧ w.frozen? ⟨g, 3, none⟩ = false
theorem TopS.keep {g : Nat} {S T : Int} {v : Value} {s : Bool} {w w' : World} (h : TopS g S T v s w) (hb : w'.heap[g]? = w.heap[g]?) : TopS g S T v s w' := by
  obtain ⟨⟨h0, h1, h2, h3⟩, f0, f1, f2, f3⟩ := h
  have hc : ∀ o, w'.cell? ⟨g, o, none⟩ = w.cell? ⟨g, o, none⟩ := fun o => World.cell?_of_block (w := w) (a := ⟨g, o, none⟩) hb
  have hf : ∀ o, w'.frozen? ⟨g, o, none⟩ = w.frozen? ⟨g, o, none⟩ := fun o => World.frozen?_of_block (w := w) (a := ⟨g, o, none⟩) hb
  exact ⟨⟨(hc _).trans h0, (hc _).trans h1, (hc _).trans h2, (hc _).trans h3⟩, (hf _).trans f0, (hf _).trans f1, (hf _).trans f2, (hf _).trans f3⟩
theorem TopS.below {g : Nat} {S T : Int} {v : Value} {s : Bool} {w w' : World} (h : TopS g S T v s w) {B : Nat} (hb : Below B w w') (hg : g < B) : TopS g S T v s w' := h.keep (hb.block g hg)
theorem TopS.new (S T : Int) (v : Value) (s : Bool) (t : TypeId) (w : World) : TopS w.heap.size S T v s (w.alloc (.cells #[.int .i64 S, .int .i64 T, v, .bool s] t)) := by
  exact ⟨⟨by go_simp, by go_simp, by go_simp, by go_simp⟩, by go_simp, by go_simp, by go_simp, by go_simp⟩
theorem TopS.lt {g : Nat} {S T : Int} {v : Value} {s : Bool} {w : World} (h : TopS g S T v s w) : g < w.heap.size := by
  have h0 := h.1.1
  unfold World.cell? at h0
  cases hb : w.heap[g]? with
  | none => simp [hb] at h0
  | some o => exact (Array.getElem?_eq_some_iff.1 hb).1
/-- What is wrong with an entry. -/
def entE (x : Ent) : Int := if keyB (byt x.k) = false then 7 else if x.c < 1 ∨ 1099511627776 < x.c ∨ x.e < 0 ∨ x.c ≤ x.e then 5 else 0
/-- What is wrong at position i. -/
def errAt (L : List Ent) (i : Nat) : Int :=
  if entE (L.getD i Ent.z) ≠ 0 then entE (L.getD i Ent.z) else if hasK (L.take i) (L.getD i Ent.z).k = true then 9 else if 0 < i ∧ bef (L.getD (i - 1) Ent.z) (L.getD i Ent.z) = false then 19 else 0
/-- The first error among the m entries from i on. -/
def vgo (L : List Ent) : Nat → Nat → Int
  | 0, _ => 0
  | m + 1, i => if errAt L i ≠ 0 then errAt L i else vgo L m (i + 1)
def valE (S T : Int) (L : List Ent) : Int := if S < 1 ∨ 32 < S ∨ T < 0 ∨ 1099511627776 < T then 5 else if S < L.length then 11 else vgo L L.length 0
/-- What a valid summary is. -/
structure Valid (S T : Int) (L : List Ent) : Prop where
  s0 : 1 ≤ S
  s1 : S ≤ 32
  t0 : 0 ≤ T
  t1 : T ≤ 1099511627776
  len : (L.length : Int) ≤ S
  ent : ∀ i, i < L.length → entE (L.getD i Ent.z) = 0
  one : ∀ i, i < L.length → hasK (L.take i) (L.getD i Ent.z).k = false
  ord : ∀ i, i + 1 < L.length → bef (L.getD i Ent.z) (L.getD (i + 1) Ent.z) = true
theorem entE_cases (x : Ent) : entE x = 0 ∨ entE x = 7 ∨ entE x = 5 := by
  unfold entE
  split
  · exact .inr (.inl rfl)
  · split
    · exact .inr (.inr rfl)
    · exact .inl rfl
theorem errAt_zero {L : List Ent} {i : Nat} (h : errAt L i = 0) : entE (L.getD i Ent.z) = 0 ∧ hasK (L.take i) (L.getD i Ent.z).k = false ∧ (0 < i → bef (L.getD (i - 1) Ent.z) (L.getD i Ent.z) = true) := by
  unfold errAt at h
  by_cases h1 : entE (L.getD i Ent.z) = 0
  · rw [if_neg (by simpa using h1)] at h
    by_cases h2 : hasK (L.take i) (L.getD i Ent.z).k = true
    · rw [if_pos h2] at h
      cases h
    · rw [if_neg h2] at h
      by_cases h3 : 0 < i ∧ bef (L.getD (i - 1) Ent.z) (L.getD i Ent.z) = false
      · rw [if_pos h3] at h
        cases h
      · refine ⟨h1, by simpa using h2, fun h4 => ?_⟩
        cases hb : bef (L.getD (i - 1) Ent.z) (L.getD i Ent.z) with
        | true => rfl
        | false => exact absurd ⟨h4, hb⟩ h3
  · rw [if_pos h1] at h
    exact absurd h h1
theorem vgo_zero (L : List Ent) : ∀ m i, vgo L m i = 0 → ∀ j, i ≤ j → j < i + m → errAt L j = 0
  | 0, i, _, j, h1, h2 => by omega
  | m + 1, i, h, j, h1, h2 => by
    unfold vgo at h
    by_cases he : errAt L i = 0
    · rw [if_neg (by simpa using he)] at h
      by_cases hj : j = i
      · subst hj; exact he
      · exact vgo_zero L m (i + 1) h j (by omega) (by omega)
    · rw [if_pos he] at h
      exact absurd h he
theorem valE_ok {S T : Int} {L : List Ent} (h : valE S T L = 0) : Valid S T L := by
  unfold valE at h
  by_cases h1 : S < 1 ∨ 32 < S ∨ T < 0 ∨ 1099511627776 < T
  · rw [if_pos h1] at h
    cases h
  · rw [if_neg h1] at h
    by_cases h2 : S < L.length
    · rw [if_pos h2] at h
      cases h
    · rw [if_neg h2] at h
      have h3 := vgo_zero L _ _ h
      refine ⟨by omega, by omega, by omega, by omega, by omega, fun i hi => (errAt_zero (h3 i (by omega) (by omega))).1, fun i hi => (errAt_zero (h3 i (by omega) (by omega))).2.1, fun i hi => ?_⟩
      have := (errAt_zero (h3 (i + 1) (by omega) (by omega))).2.2 (by omega)
      simpa using this
theorem vgo_all {L : List Ent} (m i : Nat) (h : ∀ j, i ≤ j → j < i + m → errAt L j = 0) : vgo L m i = 0 := by
  induction m generalizing i with
  | zero => rfl
  | succ m ih =>
    unfold vgo
    rw [if_neg (by simpa using h i (Nat.le_refl _) (by omega))]
    exact ih (i + 1) (fun j h1 h2 => h j (by omega) (by omega))
theorem valE_of {S T : Int} {L : List Ent} (h : Valid S T L) : valE S T L = 0 := by
  obtain ⟨s0, s1, t0, t1, l, e, o, r⟩ := h
  unfold valE
  rw [if_neg (by omega), if_neg (by omega)]
  refine vgo_all _ _ (fun j _ hj => ?_)
  unfold errAt
  rw [if_neg (by simpa using e j (by omega)), if_neg (by simpa using o j (by omega)), if_neg]
  rintro ⟨h0, h1⟩
  have := r (j - 1) (by omega)
  rw [show j - 1 + 1 = j by omega, h1] at this
  cases this
end Go.Proofs.YtjibbnknliamkaaGreatDoor
namespace Go.Proofs.YtjibbnknliamkaaGreatDoor
open Go.RowKit
set_option linter.unusedVariables false
set_option linter.unusedSimpArgs false
set_option maxRecDepth 100000 in
set_option maxHeartbeats 4000000 in
theorem compare_any (x y : Ent) (w : World) : Calls Tryz.prog 144 #[.agg #[.string x.k, .int .i64 x.c, .int .i64 x.e], .agg #[.string y.k, .int .i64 y.c, .int .i64 y.e]] w fun e w' =>
      e = .returned (.int .i64 (cmpE x y)) ∧ Below w.heap.size w w' := by
  have h1 := fun w => cmpi_any y.c x.c w
  have h2 := fun w => scmp_any x.k y.k w
  have h3 := fun g w h0 h1 => or_any (cmpI y.c x.c) (Lib.compareBytes x.k.data.toList y.k.data.toList) g w h0 h1
  rw [or2_cmp] at h3
  obtain ⟨k, c, e⟩ := x
  obtain ⟨k', c', e'⟩ := y
  dsimp only at h1 h2 h3 ⊢
  generalize cmpE ⟨k, c, e⟩ ⟨k', c', e'⟩ = R at *
  generalize cmpI c' c = p at *
  generalize Lib.compareBytes k.data.toList k'.data.toList = q at *
  go_enter Tryz.func144, Tryz.ntmps144
  go_wp2
  go_region_law (go_simp; first
    | (go_at_call 93; refine (h1 _).mono ?_; rintro e w' ⟨rfl, rfl⟩)
    | (go_at_call 94; refine (h2 _).mono ?_; rintro e w' ⟨rfl, rfl⟩)
    | (go_at_call 92; refine (h3 _ _ (by go_simp) (by go_simp)).mono ?_; rintro e w' ⟨rfl, rfl⟩))
  all_goals
    go_wp2
    go_ret
    exact ⟨rfl, by first | exact bal (b2 _ _) _ | exact (bal (b2 _ _) _).drew | exact (bal (b2 _ _) _).drewN _⟩
end Go.Proofs.YtjibbnknliamkaaGreatDoor
