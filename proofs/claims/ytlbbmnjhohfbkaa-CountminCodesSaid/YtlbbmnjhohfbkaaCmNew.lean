/- The contracts of countmin.New and of the reference's NewCountMin; sketches as values. -/
import Derived.Test.YtlbbmnjhohfbkaaCmVal
namespace Go.Proofs.Ytlbbmnjhohfbkaa
open Go.RowKit
set_option linter.unusedVariables false
set_option linter.unusedSimpArgs false
/-- A new sketch: its cells, its error. -/
def newC (D S x : Int) : CM := if shpB D S = true then ⟨D, S, x, List.replicate (D * S).toNat 0, false⟩ else CM.none
def newE (D S : Int) : Int := if shpB D S = true then 0 else 5
/-- A sketch as a value: its cells are the call's own. -/
def OwnC (B : Nat) (c : CM) (v : Value) (w : World) : Prop := ∃ a n cap, v = .agg #[.int .i64 c.D, .int .i64 c.S, .int .u64 c.x, .slice a n cap, .bool c.s] ∧ OwnI B c.L (.slice a n cap) w
/-- A sketch as a value, to be read. -/
def RdC (c : CM) (v : Value) (w : World) : Prop := ∃ a n cap, v = .agg #[.int .i64 c.D, .int .i64 c.S, .int .u64 c.x, .slice a n cap, .bool c.s] ∧ RdI c.L (.slice a n cap) w
theorem OwnC.rd {B : Nat} {c : CM} {v : Value} {w : World} (h : OwnC B c v w) : RdC c v w := by
  obtain ⟨a, n, cap, hv, ho⟩ := h
  exact ⟨a, n, cap, hv, ho.rd⟩
theorem RdC.below {c : CM} {v : Value} {w w' : World} (h : RdC c v w) (hb : Below w.heap.size w w') : RdC c v w' := by
  obtain ⟨a, n, cap, hv, ho⟩ := h
  exact ⟨a, n, cap, hv, ho.below hb⟩
theorem bset5 {a w : World} (h : Below a.heap.size a w) (k : Nat) (hk : a.heap.size ≤ k) (v0 v1 v2 v3 v4 : Value) :
    Below a.heap.size a (((((w.setCell ⟨k, 0, none⟩ v0).setCell ⟨k, 1, none⟩ v1).setCell ⟨k, 2, none⟩ v2).setCell ⟨k, 3, none⟩ v3).setCell ⟨k, 4, none⟩ v4) :=
  bset (bset (bset (bset (bset h k 0 v0 hk) k 1 v1 hk) k 2 v2 hk) k 3 v3 hk) k 4 v4 hk
theorem OwnI.keep5 {B k : Nat} {L : List Int} {v : Value} {w : World} (h : OwnI B L v w) (hk : k < B) (v0 v1 v2 v3 v4 : Value) :
    OwnI B L v (((((w.setCell ⟨k, 0, none⟩ v0).setCell ⟨k, 1, none⟩ v1).setCell ⟨k, 2, none⟩ v2).setCell ⟨k, 3, none⟩ v3).setCell ⟨k, 4, none⟩ v4) :=
  ((((h.keep hk 0 v0).keep hk 1 v1).keep hk 2 v2).keep hk 3 v3).keep hk 4 v4
theorem noneC_own (B : Nat) (w : World) : OwnC B CM.none (.agg #[.int .i64 0, .int .i64 0, .int .u64 0, .slice none 0 0, .bool false]) w := ⟨_, _, _, rfl, OwnI.empty _ _⟩
set_option maxRecDepth 100000 in
set_option maxHeartbeats 1000000 in
theorem cnew_any (D S x : Int) (w : World) (D0 : -9223372036854775808 ≤ D) (D1 : D ≤ 9223372036854775807) (S0 : -9223372036854775808 ≤ S) (S1 : S ≤ 9223372036854775807) :
    Calls Try.prog 11 #[.int .i64 D, .int .i64 S, .int .u64 x] w fun e w' => ∃ v, e = .returned (.tuple #[v, .int .i64 (newE D S)]) ∧ OwnC w.heap.size (newC D S x) v w' ∧ Below w.heap.size w w' := by
  have hs := fun w => isShape_any D S w
  unfold newC newE
  by_cases hE : shpB D S = true
  · obtain ⟨d0, d1, s0, s1, p0, p1⟩ := shp_bd hE
    rw [if_pos hE, if_pos hE]
    rw [hE] at hs
    obtain ⟨M, hM⟩ : ∃ M : Nat, D * S = (M : Int) := ⟨(D * S).toNat, by omega⟩
    have HQ := Lib.hid (show Value.int .i64 (D * S) = .int .i64 (M : Int) by rw [hM])
    have HM := Lib.hid (show List.replicate (D * S).toNat (0 : Int) = List.replicate M 0 by rw [hM, Int.toNat_natCast])
    have hM2 : M ≤ 512 := by omega
    rw [HM.out]
    clear hE hM HM
    go_enter Try.func11, Try.ntmps11
    go_wp2_with (first
      | (go_at_call 32; refine (hs _).mono ?_; rintro e w' ⟨rfl, rfl⟩)
      | (at_make; (refine wp_makeI rfl _ _ rfl M HQ.out HQ.out (by omega) ?_; intro w1 o1 hb1 hlt; have O1 := Lib.hid o1; have B1 := Lib.hid hb1; obtain ⟨hc1, hf1⟩ := bcell hb1; have hz1 : w.heap.size < w1.heap.size := (by simp at hlt; omega); clear o1 hb1)))
    have O2 := O1.out
    have hz : ∀ o, (w.alloc o).heap.size = w.heap.size + 1 := fun o => by simp
    rw [hz] at O2
    refine bodyPost_ret (v := .tuple #[.agg #[.int .i64 D, .int .i64 S, .int .u64 x, .slice (some ⟨w.heap.size + 1, 0, none⟩) M M, .bool false], .int .i64 0]) (by simp [results, Try.results11, go_sem, *]) rfl ⟨_, rfl, ⟨_, _, _, rfl, (O2.keep5 (Nat.lt_succ_self _) _ _ _ _ _).mono (Nat.le_succ _)⟩, ?_⟩
    exact bset5 (bgo (b1 _) B1.out) _ (Nat.le_refl _) _ _ _ _ _
  · have hE' : shpB D S = false := by simpa using hE
    rw [if_neg hE, if_neg hE]
    rw [hE'] at hs
    clear hE hE'
    go_enter Try.func11, Try.ntmps11
    go_wp2_with (go_at_call 32; refine (hs _).mono ?_; rintro e w' ⟨rfl, rfl⟩)
    refine bodyPost_ret (v := .tuple #[.agg #[.int .i64 0, .int .i64 0, .int .u64 0, .slice none 0 0, .bool false], .int .i64 5]) (by simp [results, Try.results11, go_sem, *]) rfl ⟨_, rfl, noneC_own _ _, ?_⟩
    first | exact b1 _ | exact bset5 (b1 _) _ (Nat.le_refl _) _ _ _ _ _
set_option maxRecDepth 100000 in
set_option maxHeartbeats 1000000 in
theorem rcnew_any (D S x : Int) (w : World) (D0 : -9223372036854775808 ≤ D) (D1 : D ≤ 9223372036854775807) (S0 : -9223372036854775808 ≤ S) (S1 : S ≤ 9223372036854775807) :
    Calls Try.prog 12 #[.int .i64 D, .int .i64 S, .int .u64 x] w fun e w' => ∃ v, e = .returned (.tuple #[v, .int .i64 (newE D S)]) ∧ OwnC w.heap.size (newC D S x) v w' ∧ Below w.heap.size w w' := by
  have hs := fun w => rwithin_any D 1 8 w
  have ht := fun w => rwithin_any S 1 64 w
  unfold newC newE
  by_cases hE : shpB D S = true
  · obtain ⟨d0, d1, s0, s1, p0, p1⟩ := shp_bd hE
    have hq : inW D 1 8 = true := by unfold inW; simp; omega
    have hr : inW S 1 64 = true := by unfold inW; simp; omega
    rw [hq] at hs
    rw [hr] at ht
    rw [if_pos hE, if_pos hE]
    obtain ⟨M, hM⟩ : ∃ M : Nat, D * S = (M : Int) := ⟨(D * S).toNat, by omega⟩
    have HQ := Lib.hid (show Value.int .i64 (D * S) = .int .i64 (M : Int) by rw [hM])
    have HM := Lib.hid (show List.replicate (D * S).toNat (0 : Int) = List.replicate M 0 by rw [hM, Int.toNat_natCast])
    have hM2 : M ≤ 512 := by omega
    rw [HM.out]
    clear hE hM HM hq hr
    go_enter Try.func12, Try.ntmps12
    go_wp2_with (first
      | (go_at_call 33; (with_reducible refine (hs _).mono ?_); rintro e w' ⟨rfl, rfl⟩)
      | (go_at_call 33; (with_reducible refine (ht _).mono ?_); rintro e w' ⟨rfl, rfl⟩)
      | (at_make; (refine wp_makeI rfl _ _ rfl M HQ.out HQ.out (by omega) ?_; intro w1 o1 hb1 hlt; have O1 := Lib.hid o1; have B1 := Lib.hid hb1; obtain ⟨hc1, hf1⟩ := bcell hb1; have hz1 : w.heap.size < w1.heap.size := (by simp at hlt; omega); clear o1 hb1)))
    have O2 := O1.out
    have hz : ∀ o, (w.alloc o).heap.size = w.heap.size + 1 := fun o => by simp
    rw [hz] at O2
    refine bodyPost_ret (v := .tuple #[.agg #[.int .i64 D, .int .i64 S, .int .u64 x, .slice (some ⟨w.heap.size + 1, 0, none⟩) M M, .bool false], .int .i64 0]) (by simp [results, Try.results12, go_sem, *]) rfl ⟨_, rfl, ⟨_, _, _, rfl, (O2.keep5 (Nat.lt_succ_self _) _ _ _ _ _).mono (Nat.le_succ _)⟩, ?_⟩
    exact bset5 (bgo (b1 _) B1.out) _ (Nat.le_refl _) _ _ _ _ _
  · have hE' : shpB D S = false := by simpa using hE
    have hq : inW D 1 8 = false ∨ inW D 1 8 = true ∧ inW S 1 64 = false := by unfold shpB at hE'; unfold inW; simp at hE' ⊢; omega
    rw [if_neg hE, if_neg hE]
    clear hE hE'
    rcases hq with hq | ⟨hq, hr⟩
    · rw [hq] at hs
      clear hq
      go_enter Try.func12, Try.ntmps12
      go_wp2_with (go_at_call 33; (with_reducible refine (hs _).mono ?_); rintro e w' ⟨rfl, rfl⟩)
      refine bodyPost_ret (v := .tuple #[.agg #[.int .i64 0, .int .i64 0, .int .u64 0, .slice none 0 0, .bool false], .int .i64 5]) (by simp [results, Try.results12, go_sem, *]) rfl ⟨_, rfl, noneC_own _ _, ?_⟩
      first | exact b1 _ | exact bset5 (b1 _) _ (Nat.le_refl _) _ _ _ _ _
    · rw [hq] at hs
      rw [hr] at ht
      clear hq hr
      go_enter Try.func12, Try.ntmps12
      go_wp2_with (first
        | (go_at_call 33; (with_reducible refine (hs _).mono ?_); rintro e w' ⟨rfl, rfl⟩)
        | (go_at_call 33; (with_reducible refine (ht _).mono ?_); rintro e w' ⟨rfl, rfl⟩))
      refine bodyPost_ret (v := .tuple #[.agg #[.int .i64 0, .int .i64 0, .int .u64 0, .slice none 0 0, .bool false], .int .i64 5]) (by simp [results, Try.results12, go_sem, *]) rfl ⟨_, rfl, noneC_own _ _, ?_⟩
      first | exact b1 _ | exact bset5 (b1 _) _ (Nat.le_refl _) _ _ _ _ _
end Go.Proofs.Ytlbbmnjhohfbkaa
