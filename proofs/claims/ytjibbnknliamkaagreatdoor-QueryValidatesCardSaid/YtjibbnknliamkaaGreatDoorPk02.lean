/- CmVal, CmNew, Ll: in one text. -/
import Derived.Test.YtjibbnknliamkaaGreatDoorPk01
import Derived.Test.YtjibbnknliamkaaGreatDoorPk00
import Derived.Laws.Cover3
import Derived.Laws.FloatArith
import Derived.Lib.SliceRun
namespace Go.Proofs.YtjibbnknliamkaaGreatDoor
open Go.RowKit
set_option linter.unusedVariables false
set_option linter.unusedSimpArgs false
theorem all_getD {p : Int → Bool} {L : List Int} (h : ∀ j, j < L.length → p (L.getD j 0) = true) : L.all p = true := by
  rw [List.all_eq_true]
  intro n hn
  obtain ⟨j, hj, rfl⟩ := List.mem_iff_getElem.1 hn
  have := h j hj
  simpa [List.getD, hj] using this
theorem not_all_getD {p : Int → Bool} {L : List Int} {j : Nat} (hj : j < L.length) (h : p (L.getD j 0) = false) : L.all p = false := by
  rw [List.all_eq_false]
  refine ⟨L[j], List.getElem_mem hj, ?_⟩
  simpa [List.getD, hj] using h
theorem upto_succ {p : Nat → Prop} {k : Nat} (h : ∀ j, j < k → p j) (hk : p k) : ∀ j, j < k + 1 → p j := fun j hj => by
  by_cases hjk : j < k
  · exact h j hjk
  · obtain rfl : j = k := by omega
    exact hk
theorem celB_no {n : Int} (h : celB n = false) : n < 0 ∨ 4294967295 < n := by
  unfold celB at h
  simp at h
  omega
theorem cmE_shp {D S : Int} {L : List Int} (h : shpB D S = false) : cmE D S L = 5 := by unfold cmE; rw [if_pos h]
theorem cmE_len {D S : Int} {L : List Int} (h : shpB D S = true) (h2 : ¬ (L.length : Int) = D * S) : cmE D S L = 18 := by unfold cmE; rw [if_neg (by rw [h]; simp), if_pos h2]
theorem cmE_bad {D S : Int} {L : List Int} (h : shpB D S = true) (h2 : (L.length : Int) = D * S) {j : Nat} (hj : j < L.length) (h3 : celB (L.getD j 0) = false) : cmE D S L = 5 := by
  unfold cmE
  rw [if_neg (by rw [h]; simp), if_neg (by omega), if_neg (by rw [not_all_getD hj h3]; simp)]
theorem cmE_all {D S : Int} {L : List Int} (h : shpB D S = true) (h2 : (L.length : Int) = D * S) (h3 : ∀ j, j < L.length → celB (L.getD j 0) = true) : cmE D S L = 0 := by
  unfold cmE
  rw [if_neg (by rw [h]; simp), if_neg (by omega), if_pos (all_getD h3)]
theorem shp_bd {D S : Int} (h : shpB D S = true) : 1 ≤ D ∧ D ≤ 8 ∧ 1 ≤ S ∧ S ≤ 64 ∧ 0 ≤ D * S ∧ D * S ≤ 512 := by
  obtain ⟨a, b, c, d⟩ := (shpB_iff D S).1 h
  have := Int.mul_nonneg (show 0 ≤ D by omega) (show 0 ≤ S by omega)
  have : D * S ≤ 8 * 64 := Int.mul_le_mul b d (by omega) (by omega)
  omega
set_option maxRecDepth 100000 in
set_option maxHeartbeats 1000000 in
theorem cval_any (D S x : Int) (L : List Int) (a : Option Addr) (n cap : Nat) (s : Bool) (w : World) (D0 : -9223372036854775808 ≤ D) (D1 : D ≤ 9223372036854775807) (S0 : -9223372036854775808 ≤ S) (S1 : S ≤ 9223372036854775807) (h : RdI L (.slice a n cap) w) :
    Calls Tryz.prog 106 #[.agg #[.int .i64 D, .int .i64 S, .int .u64 x, .slice a n cap, .bool s]] w fun e w' => e = .returned (.int .i64 (cmE D S L)) ∧ Below w.heap.size w w' := by
  obtain ⟨hy, a', cap', he, h1, h2, h3⟩ := h
  simp only [Value.slice.injEq] at he
  obtain ⟨rfl, rfl, rfl⟩ := he
  have hs := fun w => isShape_any D S w
  by_cases hE : shpB D S = false
  · rw [cmE_shp hE]
    rw [hE] at hs
    clear hE hy h1 h2 h3
    go_enter Tryz.func106, Tryz.ntmps106
    go_wp2_with (go_at_call 139; refine (hs _).mono ?_; rintro e w' ⟨rfl, rfl⟩)
    go_ret
    exact ⟨rfl, b1 _⟩
  · have hE : shpB D S = true := by simpa using hE
    obtain ⟨d0, d1, s0, s1, p0, p1⟩ := shp_bd hE
    have hl1 : (L.length : Int) ≤ 9223372036854775807 := by unfold maxLen at h2; omega
    by_cases hL : (L.length : Int) = D * S
    · have H5 := Lib.hid (fun j (hj : j < L.length) (h : celB (L.getD j 0) = false) => cmE_bad hE hL hj h)
      have H0 := Lib.hid (fun h => cmE_all hE hL h)
      rw [hE] at hs
      have HC := Lib.hid h3
      have HY := Lib.hid (fun k => Rng.at_ hy k)
      have hl2 : L.length ≤ 512 := by omega
      generalize cmE D S L = E at *
      clear hE hy h3 h1 h2
      go_enter Tryz.func106, Tryz.ntmps106
      go_wp2_with (go_at_call 139; refine (hs _).mono ?_; rintro e w' ⟨rfl, rfl⟩)
      go_loop [4, 23] (fun _ i => ∃ k : Nat, k ≤ L.length ∧ i = .int .i64 (k : Int) ∧ Hid (∀ j, j < k → celB (L.getD j 0) = true)) (fun _ i => L.length - (intOf i).toNat)
      case atStart => exact ⟨0, by omega, rfl, Lib.hid (fun j hj => by omega)⟩
      case round =>
        obtain ⟨k, hk, rfl, HA⟩ := hrel
        by_cases hlt : k < L.length
        · obtain ⟨b, off, rfl, hb, hcell⟩ := HC.out (by omega)
          have hc := hcell k hlt
          have hbd := HY.out k
          by_cases hcb : celB (L.getD k 0) = true
          · have HN := Lib.hid (upto_succ (p := fun j => celB (L.getD j 0) = true) HA.out hcb)
            have hq := (celB_iff _).1 hcb
            obtain ⟨q0, q1⟩ := hq
            clear hcb hcell
            generalize L.getD k 0 = z at *
            go_wp2
            go_round
            case rel => exact ⟨k + 1, by omega, by go_num, HN⟩
            case measure => simp [intOf]; omega
          · have hcb : celB (L.getD k 0) = false := by simpa using hcb
            have e5 := H5.out k hlt hcb
            have hq := celB_no hcb
            have E5 := Lib.hid e5
            clear hcb hcell H5 H0 e5
            generalize L.getD k 0 = z at *
            rcases hq with hq | hq
            · go_wp2
              go_ret
              exact ⟨ret_int E5.out.symm, b1 _⟩
            · have hq0 : ¬ z < 0 := by omega
              go_wp2
              go_ret
              exact ⟨ret_int E5.out.symm, b1 _⟩
        · obtain rfl : k = L.length := by omega
          have E0 := Lib.hid (H0.out HA.out)
          go_wp2
          go_ret
          exact ⟨ret_int E0.out.symm, b1 _⟩
    · rw [cmE_len hE hL]
      rw [hE] at hs
      have hL2 : ((L.length : Int) != D * S) = true := by simpa using hL
      clear hE hy h1 h2 h3
      go_enter Tryz.func106, Tryz.ntmps106
      go_wp2_with (go_at_call 139; refine (hs _).mono ?_; rintro e w' ⟨rfl, rfl⟩)
      go_ret
      exact ⟨rfl, b1 _⟩
end Go.Proofs.YtjibbnknliamkaaGreatDoor
namespace Go.Proofs.YtjibbnknliamkaaGreatDoor
open Go.RowKit
set_option linter.unusedVariables false
set_option linter.unusedSimpArgs false
/-- A new sketch: its cells, its error. -/
def newC (D S x : Int) : CM := if shpB D S = true then ⟨D, S, x, List.replicate (D * S).toNat 0, false⟩ else CM.none
def newE (D S : Int) : Int := if shpB D S = true then 0 else 5
/-- A sketch as a value: its cells are the call's own. -/
def OwnC (B : Nat) (c : CM) (v : Value) (w : World) : Prop := ∃ a n cap, v = .agg #[.int .i64 c.D, .int .i64 c.S, .int .u64 c.x, .slice a n cap, .bool c.s] ∧ OwnI B c.L (.slice a n cap) w
/-- A sketch as a value, to be read. -/
def RdC (c : CM) (v : Value) (w : World) : Prop := ∃ a n cap, v = .agg #[.int .i64 c.D, .int .i64 c.S, .int .u64 c.x, .slice a n cap, .bool c.s] ∧ RdI c.L (.slice a n cap) w
theorem OwnC.rd {B : Nat} {c : CM} {v : Value} {w : World} (h : OwnC B c v w) : RdC c v w := by
  obtain ⟨a, n, cap, hv, ho⟩ := h
  exact ⟨a, n, cap, hv, ho.rd⟩
theorem RdC.below {c : CM} {v : Value} {w w' : World} (h : RdC c v w) (hb : Below w.heap.size w w') : RdC c v w' := by
  obtain ⟨a, n, cap, hv, ho⟩ := h
  exact ⟨a, n, cap, hv, ho.below hb⟩
theorem bset5 {a w : World} (h : Below a.heap.size a w) (k : Nat) (hk : a.heap.size ≤ k) (v0 v1 v2 v3 v4 : Value) :
    Below a.heap.size a (((((w.setCell ⟨k, 0, none⟩ v0).setCell ⟨k, 1, none⟩ v1).setCell ⟨k, 2, none⟩ v2).setCell ⟨k, 3, none⟩ v3).setCell ⟨k, 4, none⟩ v4) :=
  bset (bset (bset (bset (bset h k 0 v0 hk) k 1 v1 hk) k 2 v2 hk) k 3 v3 hk) k 4 v4 hk
theorem OwnI.keep5 {B k : Nat} {L : List Int} {v : Value} {w : World} (h : OwnI B L v w) (hk : k < B) (v0 v1 v2 v3 v4 : Value) :
    OwnI B L v (((((w.setCell ⟨k, 0, none⟩ v0).setCell ⟨k, 1, none⟩ v1).setCell ⟨k, 2, none⟩ v2).setCell ⟨k, 3, none⟩ v3).setCell ⟨k, 4, none⟩ v4) :=
  ((((h.keep hk 0 v0).keep hk 1 v1).keep hk 2 v2).keep hk 3 v3).keep hk 4 v4
theorem noneC_own (B : Nat) (w : World) : OwnC B CM.none (.agg #[.int .i64 0, .int .i64 0, .int .u64 0, .slice none 0 0, .bool false]) w := ⟨_, _, _, rfl, OwnI.empty _ _⟩
set_option maxRecDepth 100000 in
set_option maxHeartbeats 1000000 in
theorem cnew_any (D S x : Int) (w : World) (D0 : -9223372036854775808 ≤ D) (D1 : D ≤ 9223372036854775807) (S0 : -9223372036854775808 ≤ S) (S1 : S ≤ 9223372036854775807) :
    Calls Tryz.prog 176 #[.int .i64 D, .int .i64 S, .int .u64 x] w fun e w' => ∃ v, e = .returned (.tuple #[v, .int .i64 (newE D S)]) ∧ OwnC w.heap.size (newC D S x) v w' ∧ Below w.heap.size w w' := by
  have hs := fun w => isShape_any D S w
  unfold newC newE
  by_cases hE : shpB D S = true
  · obtain ⟨d0, d1, s0, s1, p0, p1⟩ := shp_bd hE
    rw [if_pos hE, if_pos hE]
    rw [hE] at hs
    obtain ⟨M, hM⟩ : ∃ M : Nat, D * S = (M : Int) := ⟨(D * S).toNat, by omega⟩
    have HQ := Lib.hid (show Value.int .i64 (D * S) = .int .i64 (M : Int) by rw [hM])
    have HM := Lib.hid (show List.replicate (D * S).toNat (0 : Int) = List.replicate M 0 by rw [hM, Int.toNat_natCast])
    have hM2 : M ≤ 512 := by omega
    rw [HM.out]
    clear hE hM HM
    go_enter Tryz.func176, Tryz.ntmps176
    go_wp2_with (first
      | (go_at_call 139; refine (hs _).mono ?_; rintro e w' ⟨rfl, rfl⟩)
      | (at_make; (refine wp_makeI rfl _ _ rfl M HQ.out HQ.out (by omega) ?_; intro w1 o1 hb1 hlt; have O1 := Lib.hid o1; have B1 := Lib.hid hb1; obtain ⟨hc1, hf1⟩ := bcell hb1; have hz1 : w.heap.size < w1.heap.size := (by simp at hlt; omega); clear o1 hb1)))
    have O2 := O1.out
    have hz : ∀ o, (w.alloc o).heap.size = w.heap.size + 1 := fun o => by simp
    rw [hz] at O2
    refine bodyPost_ret (v := .tuple #[.agg #[.int .i64 D, .int .i64 S, .int .u64 x, .slice (some ⟨w.heap.size + 1, 0, none⟩) M M, .bool false], .int .i64 0]) (by simp [results, Tryz.results176, go_sem, *]) rfl ⟨_, rfl, ⟨_, _, _, rfl, (O2.keep5 (Nat.lt_succ_self _) _ _ _ _ _).mono (Nat.le_succ _)⟩, ?_⟩
    exact bset5 (bgo (b1 _) B1.out) _ (Nat.le_refl _) _ _ _ _ _
  · have hE' : shpB D S = false := by simpa using hE
    rw [if_neg hE, if_neg hE]
    rw [hE'] at hs
    clear hE hE'
    go_enter Tryz.func176, Tryz.ntmps176
    go_wp2_with (go_at_call 139; refine (hs _).mono ?_; rintro e w' ⟨rfl, rfl⟩)
    refine bodyPost_ret (v := .tuple #[.agg #[.int .i64 0, .int .i64 0, .int .u64 0, .slice none 0 0, .bool false], .int .i64 5]) (by simp [results, Tryz.results176, go_sem, *]) rfl ⟨_, rfl, noneC_own _ _, ?_⟩
    first | exact b1 _ | exact bset5 (b1 _) _ (Nat.le_refl _) _ _ _ _ _
set_option maxRecDepth 100000 in
set_option maxHeartbeats 1000000 in
theorem rcnew_any (D S x : Int) (w : World) (D0 : -9223372036854775808 ≤ D) (D1 : D ≤ 9223372036854775807) (S0 : -9223372036854775808 ≤ S) (S1 : S ≤ 9223372036854775807) :
    Calls Tryz.prog 49 #[.int .i64 D, .int .i64 S, .int .u64 x] w fun e w' => ∃ v, e = .returned (.tuple #[v, .int .i64 (newE D S)]) ∧ OwnC w.heap.size (newC D S x) v w' ∧ Below w.heap.size w w' := by
  have hs := fun w => rwithin_any D 1 8 w
  have ht := fun w => rwithin_any S 1 64 w
  unfold newC newE
  by_cases hE : shpB D S = true
  · obtain ⟨d0, d1, s0, s1, p0, p1⟩ := shp_bd hE
    have hq : inW D 1 8 = true := by unfold inW; simp; omega
    have hr : inW S 1 64 = true := by unfold inW; simp; omega
    rw [hq] at hs
    rw [hr] at ht
    rw [if_pos hE, if_pos hE]
    obtain ⟨M, hM⟩ : ∃ M : Nat, D * S = (M : Int) := ⟨(D * S).toNat, by omega⟩
    have HQ := Lib.hid (show Value.int .i64 (D * S) = .int .i64 (M : Int) by rw [hM])
    have HM := Lib.hid (show List.replicate (D * S).toNat (0 : Int) = List.replicate M 0 by rw [hM, Int.toNat_natCast])
    have hM2 : M ≤ 512 := by omega
    rw [HM.out]
    clear hE hM HM hq hr
    go_enter Tryz.func49, Tryz.ntmps49
    go_wp2_with (first
      | (go_at_call 87; (with_reducible refine (hs _).mono ?_); rintro e w' ⟨rfl, rfl⟩)
      | (go_at_call 87; (with_reducible refine (ht _).mono ?_); rintro e w' ⟨rfl, rfl⟩)
      | (at_make; (refine wp_makeI rfl _ _ rfl M HQ.out HQ.out (by omega) ?_; intro w1 o1 hb1 hlt; have O1 := Lib.hid o1; have B1 := Lib.hid hb1; obtain ⟨hc1, hf1⟩ := bcell hb1; have hz1 : w.heap.size < w1.heap.size := (by simp at hlt; omega); clear o1 hb1)))
    have O2 := O1.out
    have hz : ∀ o, (w.alloc o).heap.size = w.heap.size + 1 := fun o => by simp
    rw [hz] at O2
    refine bodyPost_ret (v := .tuple #[.agg #[.int .i64 D, .int .i64 S, .int .u64 x, .slice (some ⟨w.heap.size + 1, 0, none⟩) M M, .bool false], .int .i64 0]) (by simp [results, Tryz.results49, go_sem, *]) rfl ⟨_, rfl, ⟨_, _, _, rfl, (O2.keep5 (Nat.lt_succ_self _) _ _ _ _ _).mono (Nat.le_succ _)⟩, ?_⟩
    exact bset5 (bgo (b1 _) B1.out) _ (Nat.le_refl _) _ _ _ _ _
  · have hE' : shpB D S = false := by simpa using hE
    have hq : inW D 1 8 = false ∨ inW D 1 8 = true ∧ inW S 1 64 = false := by unfold shpB at hE'; unfold inW; simp at hE' ⊢; omega
    rw [if_neg hE, if_neg hE]
    clear hE hE'
    rcases hq with hq | ⟨hq, hr⟩
    · rw [hq] at hs
      clear hq
      go_enter Tryz.func49, Tryz.ntmps49
      go_wp2_with (go_at_call 87; (with_reducible refine (hs _).mono ?_); rintro e w' ⟨rfl, rfl⟩)
      refine bodyPost_ret (v := .tuple #[.agg #[.int .i64 0, .int .i64 0, .int .u64 0, .slice none 0 0, .bool false], .int .i64 5]) (by simp [results, Tryz.results49, go_sem, *]) rfl ⟨_, rfl, noneC_own _ _, ?_⟩
      first | exact b1 _ | exact bset5 (b1 _) _ (Nat.le_refl _) _ _ _ _ _
    · rw [hq] at hs
      rw [hr] at ht
      clear hq hr
      go_enter Tryz.func49, Tryz.ntmps49
      go_wp2_with (first
        | (go_at_call 87; (with_reducible refine (hs _).mono ?_); rintro e w' ⟨rfl, rfl⟩)
        | (go_at_call 87; (with_reducible refine (ht _).mono ?_); rintro e w' ⟨rfl, rfl⟩))
      refine bodyPost_ret (v := .tuple #[.agg #[.int .i64 0, .int .i64 0, .int .u64 0, .slice none 0 0, .bool false], .int .i64 5]) (by simp [results, Tryz.results49, go_sem, *]) rfl ⟨_, rfl, noneC_own _ _, ?_⟩
      first | exact b1 _ | exact bset5 (b1 _) _ (Nat.le_refl _) _ _ _ _ _
end Go.Proofs.YtjibbnknliamkaaGreatDoor
namespace Go.Proofs.YtjibbnknliamkaaGreatDoor
open Go.RowKit
set_option linter.unusedVariables false
set_option linter.unusedSimpArgs false
/-- A sketch: precision, seed, registers. -/
structure LL where
  P : Int
  x : Int
  L : List Int
def LL.none : LL := ⟨0, 0, []⟩
/-- May P be a precision? -/
def prB (P : Int) : Bool := decide (2 ≤ P) && decide (P ≤ 8)
theorem prB_iff (P : Int) : prB P = true ↔ 2 ≤ P ∧ P ≤ 8 := by
  unfold prB
  rw [Bool.and_eq_true, decide_eq_true_eq, decide_eq_true_eq]
/-- May n be a register? -/
def regB (P n : Int) : Bool := decide (0 ≤ n) && decide (n ≤ 65 - P)
theorem regB_iff (P n : Int) : regB P n = true ↔ 0 ≤ n ∧ n ≤ 65 - P := by
  unfold regB
  rw [Bool.and_eq_true, decide_eq_true_eq, decide_eq_true_eq]
/-- How many registers. -/
def llN (P : Int) : Nat := 2 ^ P.toNat
theorem llN_bd {P : Int} (h : 2 ≤ P ∧ P ≤ 8) : 4 ≤ llN P ∧ llN P ≤ 256 := by
  obtain ⟨p, rfl⟩ : ∃ p : Nat, P = (p : Int) := ⟨P.toNat, by omega⟩
  have : p = 2 ∨ p = 3 ∨ p = 4 ∨ p = 5 ∨ p = 6 ∨ p = 7 ∨ p = 8 := by omega
  rcases this with rfl | rfl | rfl | rfl | rfl | rfl | rfl <;> decide
/-- What Validate says. -/
def llE (P : Int) (L : List Int) : Int := if prB P = false then 5 else if (L.length : Int) ≠ (llN P : Nat) then 18 else if L.all (regB P) = true then 0 else 5
theorem llE_shp {P : Int} {L : List Int} (h : prB P = false) : llE P L = 5 := by unfold llE; rw [if_pos h]
theorem llE_len {P : Int} {L : List Int} (h : prB P = true) (h2 : ¬ L.length = llN P) : llE P L = 18 := by unfold llE; rw [if_neg (by rw [h]; simp), if_pos (by omega)]
theorem lall_getD {p : Int → Bool} {L : List Int} (h : ∀ j, j < L.length → p (L.getD j 0) = true) : L.all p = true := by
  rw [List.all_eq_true]
  intro n hn
  obtain ⟨j, hj, rfl⟩ := List.getElem_of_mem hn
  have := h j hj
  simpa [List.getD, hj] using this
theorem lnot_all_getD {p : Int → Bool} {L : List Int} {j : Nat} (hj : j < L.length) (h : p (L.getD j 0) = false) : L.all p = false := by
  rw [List.all_eq_false]
  refine ⟨L[j], List.getElem_mem hj, ?_⟩
  simpa [List.getD, hj] using h
theorem llE_bad {P : Int} {L : List Int} (h : prB P = true) (h2 : L.length = llN P) {j : Nat} (hj : j < L.length) (h3 : regB P (L.getD j 0) = false) : llE P L = 5 := by
  unfold llE
  rw [if_neg (by rw [h]; simp), if_neg (by rw [h2]; simp), if_neg (by rw [lnot_all_getD hj h3]; simp)]
theorem llE_all {P : Int} {L : List Int} (h : prB P = true) (h2 : L.length = llN P) (h3 : ∀ j, j < L.length → regB P (L.getD j 0) = true) : llE P L = 0 := by
  unfold llE
  rw [if_neg (by rw [h]; simp), if_neg (by rw [h2]; simp), if_pos (lall_getD h3)]
/-- A new sketch, its error. -/
def newL (P x : Int) : LL := if prB P = true then ⟨P, x, List.replicate (llN P) 0⟩ else LL.none
def newLE (P : Int) : Int := if prB P = true then 0 else 5
/-- A sketch as a value. -/
def OwnL (B : Nat) (c : LL) (v : Value) (w : World) : Prop := ∃ a n cap, v = .agg #[.int .i64 c.P, .int .u64 c.x, .slice a n cap] ∧ OwnI B c.L (.slice a n cap) w
def RdL (c : LL) (v : Value) (w : World) : Prop := ∃ a n cap, v = .agg #[.int .i64 c.P, .int .u64 c.x, .slice a n cap] ∧ RdI c.L (.slice a n cap) w
theorem OwnL.rd {B : Nat} {c : LL} {v : Value} {w : World} (h : OwnL B c v w) : RdL c v w := by
  obtain ⟨a, n, cap, hv, ho⟩ := h
  exact ⟨a, n, cap, hv, ho.rd⟩
theorem RdL.below {c : LL} {v : Value} {w w' : World} (h : RdL c v w) (hb : Below w.heap.size w w') : RdL c v w' := by
  obtain ⟨a, n, cap, hv, ho⟩ := h
  exact ⟨a, n, cap, hv, ho.below hb⟩
theorem noneL_own (B : Nat) (w : World) : OwnL B LL.none (.agg #[.int .i64 0, .int .u64 0, .slice none 0 0]) w := ⟨_, _, _, rfl, OwnI.empty _ _⟩
theorem bset3 {a w : World} (h : Below a.heap.size a w) (k : Nat) (hk : a.heap.size ≤ k) (v0 v1 v2 : Value) :
    Below a.heap.size a (((w.setCell ⟨k, 0, none⟩ v0).setCell ⟨k, 1, none⟩ v1).setCell ⟨k, 2, none⟩ v2) :=
  bset (bset (bset h k 0 v0 hk) k 1 v1 hk) k 2 v2 hk
theorem OwnI.keep3 {B k : Nat} {L : List Int} {v : Value} {w : World} (h : OwnI B L v w) (hk : k < B) (v0 v1 v2 : Value) :
    OwnI B L v (((w.setCell ⟨k, 0, none⟩ v0).setCell ⟨k, 1, none⟩ v1).setCell ⟨k, 2, none⟩ v2) :=
  ((h.keep hk 0 v0).keep hk 1 v1).keep hk 2 v2
/-- A struct of three cells in memory: a sketch. -/
def LSt (g : Nat) (P x : Int) (v : Value) (w : World) : Prop :=
  (w.cell? ⟨g, 0, none⟩ = some (.int .i64 P) ∧ w.cell? ⟨g, 1, none⟩ = some (.int .u64 x) ∧ w.cell? ⟨g, 2, none⟩ = some v) ∧
    w.frozen? ⟨g, 0, none⟩ = false ∧ w.frozen? ⟨g, 1, none⟩ = false ∧ w.frozen? ⟨g, 2, none⟩ = false
theorem LSt.keep {g : Nat} {P x : Int} {v : Value} {w w' : World} (h : LSt g P x v w) (hb : w'.heap[g]? = w.heap[g]?) : LSt g P x v w' := by
  obtain ⟨⟨h0, h1, h2⟩, f0, f1, f2⟩ := h
  have hc : ∀ o, w'.cell? ⟨g, o, none⟩ = w.cell? ⟨g, o, none⟩ := fun o => World.cell?_of_block (w := w) (a := ⟨g, o, none⟩) hb
  have hf : ∀ o, w'.frozen? ⟨g, o, none⟩ = w.frozen? ⟨g, o, none⟩ := fun o => World.frozen?_of_block (w := w) (a := ⟨g, o, none⟩) hb
  exact ⟨⟨(hc _).trans h0, (hc _).trans h1, (hc _).trans h2⟩, (hf _).trans f0, (hf _).trans f1, (hf _).trans f2⟩
theorem LSt.below {g : Nat} {P x : Int} {v : Value} {w w' : World} (h : LSt g P x v w) {B : Nat} (hb : Below B w w') (hg : g < B) : LSt g P x v w' := h.keep (hb.block g hg)
theorem LSt.size {g : Nat} {P x : Int} {v : Value} {w : World} (h : LSt g P x v w) : g < w.heap.size := block_lt_of_cell h.1.1
theorem LSt.new (P x : Int) (v : Value) (t : TypeId) (w : World) : LSt w.heap.size P x v (w.alloc (.cells #[.int .i64 P, .int .u64 x, v] t)) := by
  exact ⟨⟨by go_simp, by go_simp, by go_simp⟩, by go_simp, by go_simp, by go_simp⟩
theorem LSt.drewM {g : Nat} {P x : Int} {v : Value} {w : World} (h : LSt g P x v w) (j : Nat) : LSt g P x v (w.drewN j) := h
end Go.Proofs.YtjibbnknliamkaaGreatDoor
