/- Fp, RLNew, LPVal: in one text. -/
import Derived.Test.YtjibbnknliamkaaGreatDoorPg12
import Derived.Test.YtjibbnknliamkaaGreatDoorPg14
import Derived.Test.YtjibbnknliamkaaGreatDoorPg01
import Derived.Test.YtjibbnknliamkaaGreatDoorPg04
import Derived.Test.YtjibbnknliamkaaGreatDoorPg03
import Derived.BigRegion
namespace Go.Proofs.YtjibbnknliamkaaGreatDoor
open Go.RowKit
set_option linter.unusedVariables false
set_option linter.unusedSimpArgs false
/-- The parameters that the field of the kind holds. -/
def fpS (s : SK) : Int := if s.k = 2 then s.c.S else if s.k = 3 then s.l.P else if s.k = 4 then s.t.S else if s.k = 5 then s.f.S else if s.k = 6 then s.r.S else 0
def fpD (s : SK) : Int := if s.k = 2 then s.c.D else 0
def fpX (s : SK) : Int := if s.k = 2 then s.c.x else if s.k = 3 then s.l.x else 0
/-- A kind, or none. -/
theorem kind_cases (k : Int) : k = 1 ∨ k = 2 ∨ k = 3 ∨ k = 4 ∨ k = 5 ∨ k = 6 ∨ (k ≠ 1 ∧ k ≠ 2 ∧ k ≠ 3 ∧ k ≠ 4 ∧ k ≠ 5 ∧ k ≠ 6) := by omega
set_option maxRecDepth 100000 in
set_option maxHeartbeats 4000000 in
theorem fp_row (s : SK) (v1 v2 v3 v4 v5 : Value) (w : World) :
    Calls Tryz.prog 65 #[.agg (skA s v1 v2 v3 v4 v5)] w fun e w' => e = .returned (.agg #[.int .i64 s.k, .int .i64 (fpS s), .int .i64 (fpD s), .int .u64 (fpX s)]) ∧ Below w.heap.size w w' := by
  unfold fpS fpD fpX skA
  generalize s.k = k at *
  generalize s.S = p1 at *
  generalize s.D = p2 at *
  generalize s.x = p3 at *
  generalize s.tT = p4 at *
  generalize s.tI = p5 at *
  generalize s.tF = p6 at *
  generalize s.c.D = p7 at *
  generalize s.c.S = p8 at *
  generalize s.c.x = p9 at *
  generalize s.l.P = p10 at *
  generalize s.l.x = p11 at *
  generalize s.t.S = p12 at *
  generalize s.f.S = p13 at *
  generalize s.r.S = p14 at *
  rcases kind_cases k with rfl | rfl | rfl | rfl | rfl | rfl | ⟨h1, h2, h3, h4, h5, h6⟩
  · go_enter Tryz.func65, Tryz.ntmps65
    go_wp2
    all_goals
      refine bodyPost_ret (v := .agg #[.int .i64 1, .int .i64 0, .int .i64 0, .int .u64 0]) (by simp [results, Tryz.results65, go_sem, *]) rfl ⟨by simp [*], ?_⟩
      repeat (first | exact Below.refl _ _ | refine bset ?_ _ _ _ (by simp <;> omega) | refine bal ?_ _ | refine below_drew ?_)
  · go_enter Tryz.func65, Tryz.ntmps65
    go_wp2
    go_region
    all_goals go_wp2
    all_goals
      refine bodyPost_ret (v := .agg #[.int .i64 2, .int .i64 p8, .int .i64 p7, .int .u64 p9]) (by simp [results, Tryz.results65, go_sem, *]) rfl ⟨by simp [*], ?_⟩
      repeat (first | exact Below.refl _ _ | refine bset ?_ _ _ _ (by simp <;> omega) | refine bal ?_ _ | refine below_drew ?_)
  · go_enter Tryz.func65, Tryz.ntmps65
    go_wp2
    go_region
    all_goals go_wp2
    all_goals
      refine bodyPost_ret (v := .agg #[.int .i64 3, .int .i64 p10, .int .i64 0, .int .u64 p11]) (by simp [results, Tryz.results65, go_sem, *]) rfl ⟨by simp [*], ?_⟩
      repeat (first | exact Below.refl _ _ | refine bset ?_ _ _ _ (by simp <;> omega) | refine bal ?_ _ | refine below_drew ?_)
  · go_enter Tryz.func65, Tryz.ntmps65
    go_wp2
    all_goals
      refine bodyPost_ret (v := .agg #[.int .i64 4, .int .i64 p12, .int .i64 0, .int .u64 0]) (by simp [results, Tryz.results65, go_sem, *]) rfl ⟨by simp [*], ?_⟩
      repeat (first | exact Below.refl _ _ | refine bset ?_ _ _ _ (by simp <;> omega) | refine bal ?_ _ | refine below_drew ?_)
  · go_enter Tryz.func65, Tryz.ntmps65
    go_wp2
    all_goals
      refine bodyPost_ret (v := .agg #[.int .i64 5, .int .i64 p13, .int .i64 0, .int .u64 0]) (by simp [results, Tryz.results65, go_sem, *]) rfl ⟨by simp [*], ?_⟩
      repeat (first | exact Below.refl _ _ | refine bset ?_ _ _ _ (by simp <;> omega) | refine bal ?_ _ | refine below_drew ?_)
  · go_enter Tryz.func65, Tryz.ntmps65
    go_wp2
    all_goals
      refine bodyPost_ret (v := .agg #[.int .i64 6, .int .i64 p14, .int .i64 0, .int .u64 0]) (by simp [results, Tryz.results65, go_sem, *]) rfl ⟨by simp [*], ?_⟩
      repeat (first | exact Below.refl _ _ | refine bset ?_ _ _ _ (by simp <;> omega) | refine bal ?_ _ | refine below_drew ?_)
  · go_enter Tryz.func65, Tryz.ntmps65
    go_wp2
    all_goals
      refine bodyPost_ret (v := .agg #[.int .i64 k, .int .i64 0, .int .i64 0, .int .u64 0]) (by simp [results, Tryz.results65, go_sem, *]) rfl ⟨by simp [*], ?_⟩
      repeat (first | exact Below.refl _ _ | refine bset ?_ _ _ _ (by simp <;> omega) | refine bal ?_ _ | refine below_drew ?_)
end Go.Proofs.YtjibbnknliamkaaGreatDoor
namespace Go.Proofs.YtjibbnknliamkaaGreatDoor
open Go.RowKit
set_option linter.unusedVariables false
set_option linter.unusedSimpArgs false
theorem wrapN {P : Int} (h : 2 ≤ P ∧ P ≤ 8) : wrap64 (2 ^ P.toNat) = (llN P : Nat) := by
  have hb := llN_bd h
  have e : (2 : Int) ^ P.toNat = ((llN P : Nat) : Int) := by unfold llN; simp
  rw [e]
  unfold wrap64
  omega
set_option maxRecDepth 100000 in
set_option maxHeartbeats 1000000 in
theorem rlnew_any (P x : Int) (w : World) :
    Calls Tryz.prog 50 #[.int .i64 P, .int .u64 x] w fun e w' => ∃ v, e = .returned (.tuple #[v, .int .i64 (newLE P)]) ∧ OwnL w.heap.size (newL P x) v w' ∧ Below w.heap.size w w' := by
  have hs := fun w => rwithin_any P 2 8 w
  unfold newL newLE
  by_cases hE : prB P = true
  · have hq : inW P 2 8 = true := hE
    rw [hq] at hs
    rw [if_pos hE, if_pos hE]
    obtain ⟨P0, P1⟩ := (prB_iff P).1 hE
    have hM := llN_bd ⟨P0, P1⟩
    have hw := wrapN ⟨P0, P1⟩
    generalize llN P = M at *
    have HQ := Lib.hid (show Value.int .i64 (wrap64 (2 ^ P.toNat)) = .int .i64 (M : Int) by rw [hw])
    obtain ⟨hM0, hM1⟩ := hM
    clear hE hq hw
    go_enter Tryz.func50, Tryz.ntmps50
    go_wp2_with (first
      | (go_at_call 87; (with_reducible refine (hs _).mono ?_); rintro e w' ⟨rfl, rfl⟩)
      | (at_make; (refine wp_makeI rfl _ _ rfl M HQ.out HQ.out (by omega) ?_; intro w1 o1 hb1 hlt; have O1 := Lib.hid o1; have B1 := Lib.hid hb1; obtain ⟨hc1, hf1⟩ := bcell hb1; have hz1 : w.heap.size < w1.heap.size := (by simp at hlt; omega); clear o1 hb1)))
    have O2 := O1.out
    have hz : ∀ o, (w.alloc o).heap.size = w.heap.size + 1 := fun o => by simp
    rw [hz] at O2
    refine bodyPost_ret (v := .tuple #[.agg #[.int .i64 P, .int .u64 x, .slice (some ⟨w.heap.size + 1, 0, none⟩) M M], .int .i64 0]) (by simp [results, Tryz.results50, go_sem, *]) rfl ⟨_, rfl, ⟨_, _, _, rfl, (O2.keep3 (Nat.lt_succ_self _) _ _ _).mono (Nat.le_succ _)⟩, ?_⟩
    exact bset3 (bgo (b1 _) B1.out) _ (Nat.le_refl _) _ _ _
  · have hE' : prB P = false := by simpa using hE
    have hq : inW P 2 8 = false := hE'
    rw [hq] at hs
    rw [if_neg hE, if_neg hE]
    clear hE hE' hq
    go_enter Tryz.func50, Tryz.ntmps50
    go_wp2_with (go_at_call 87; refine (hs _).mono ?_; rintro e w' ⟨rfl, rfl⟩)
    refine bodyPost_ret (v := .tuple #[.agg #[.int .i64 0, .int .u64 0, .slice none 0 0], .int .i64 5]) (by simp [results, Tryz.results50, go_sem, *]) rfl ⟨_, rfl, noneL_own _ _, ?_⟩
    first | exact b1 _ | exact bset3 (b1 _) _ (Nat.le_refl _) _ _ _
end Go.Proofs.YtjibbnknliamkaaGreatDoor
namespace Go.Proofs.YtjibbnknliamkaaGreatDoor
open Go.RowKit
set_option linter.unusedVariables false
set_option linter.unusedSimpArgs false
theorem lpr_any (P : Int) (w : World) : Calls Tryz.prog 140 #[.int .i64 P] w fun e w' => e = .returned (.bool (prB P)) ∧ w = w' := by
  by_cases h : 2 ≤ P
  · by_cases h2 : P ≤ 8
    · rw [(prB_iff P).2 ⟨h, h2⟩]
      go_enter Tryz.func140, Tryz.ntmps140
      go_wp2
      go_ret
      exact ⟨rfl, rfl⟩
    · rw [show prB P = false by unfold prB; simp; omega]
      go_enter Tryz.func140, Tryz.ntmps140
      go_wp2
      go_ret
      exact ⟨rfl, rfl⟩
  · rw [show prB P = false by unfold prB; simp; omega]
    go_enter Tryz.func140, Tryz.ntmps140
    go_wp2
    go_ret
    exact ⟨rfl, rfl⟩
theorem lmost_any (P : Int) (w : World) (P0 : 2 ≤ P) (P1 : P ≤ 8) : Calls Tryz.prog 141 #[.int .i64 P] w fun e w' => e = .returned (.int .i64 (65 - P)) ∧ w = w' := by
  have hsub : IntKind.i64.wrap (65 - P) = 65 - P := by rw [IntKind.wrap_i64]; omega
  go_enter Tryz.func141, Tryz.ntmps141
  go_wp2
  go_ret
  exact ⟨rfl, rfl⟩
set_option maxRecDepth 100000 in
set_option maxHeartbeats 1000000 in
theorem lnew_any (P x : Int) (w : World) :
    Calls Tryz.prog 177 #[.int .i64 P, .int .u64 x] w fun e w' => ∃ v, e = .returned (.tuple #[v, .int .i64 (newLE P)]) ∧ OwnL w.heap.size (newL P x) v w' ∧ Below w.heap.size w w' := by
  have hs := fun w => lpr_any P w
  unfold newL newLE
  by_cases hE : prB P = true
  · rw [hE] at hs
    rw [if_pos hE, if_pos hE]
    obtain ⟨P0, P1⟩ := (prB_iff P).1 hE
    have hM := llN_bd ⟨P0, P1⟩
    have hw := wrapN ⟨P0, P1⟩
    generalize llN P = M at *
    have HQ := Lib.hid (show Value.int .i64 (wrap64 (2 ^ P.toNat)) = .int .i64 (M : Int) by rw [hw])
    obtain ⟨hM0, hM1⟩ := hM
    clear hE hw
    go_enter Tryz.func177, Tryz.ntmps177
    go_wp2_with (first
      | (go_at_call 140; (with_reducible refine (hs _).mono ?_); rintro e w' ⟨rfl, rfl⟩)
      | (at_make; (refine wp_makeI rfl _ _ rfl M HQ.out HQ.out (by omega) ?_; intro w1 o1 hb1 hlt; have O1 := Lib.hid o1; have B1 := Lib.hid hb1; obtain ⟨hc1, hf1⟩ := bcell hb1; have hz1 : w.heap.size < w1.heap.size := (by simp at hlt; omega); clear o1 hb1)))
    have O2 := O1.out
    have hz : ∀ o, (w.alloc o).heap.size = w.heap.size + 1 := fun o => by simp
    rw [hz] at O2
    refine bodyPost_ret (v := .tuple #[.agg #[.int .i64 P, .int .u64 x, .slice (some ⟨w.heap.size + 1, 0, none⟩) M M], .int .i64 0]) (by simp [results, Tryz.results177, go_sem, *]) rfl ⟨_, rfl, ⟨_, _, _, rfl, (O2.keep3 (Nat.lt_succ_self _) _ _ _).mono (Nat.le_succ _)⟩, ?_⟩
    exact bset3 (bgo (b1 _) B1.out) _ (Nat.le_refl _) _ _ _
  · have hE' : prB P = false := by simpa using hE
    rw [hE'] at hs
    rw [if_neg hE, if_neg hE]
    clear hE hE'
    go_enter Tryz.func177, Tryz.ntmps177
    go_wp2_with (go_at_call 140; refine (hs _).mono ?_; rintro e w' ⟨rfl, rfl⟩)
    refine bodyPost_ret (v := .tuple #[.agg #[.int .i64 0, .int .u64 0, .slice none 0 0], .int .i64 5]) (by simp [results, Tryz.results177, go_sem, *]) rfl ⟨_, rfl, noneL_own _ _, ?_⟩
    first | exact b1 _ | exact bset3 (b1 _) _ (Nat.le_refl _) _ _ _
set_option maxRecDepth 100000 in
set_option maxHeartbeats 1000000 in
theorem lval_any (P x : Int) (L : List Int) (a : Option Addr) (n cap : Nat) (w : World) (h : RdI L (.slice a n cap) w) :
    Calls Tryz.prog 107 #[.agg #[.int .i64 P, .int .u64 x, .slice a n cap]] w fun e w' => e = .returned (.int .i64 (llE P L)) ∧ Below w.heap.size w w' := by
  obtain ⟨hy, a', cap', he, h1, h2, h3⟩ := h
  simp only [Value.slice.injEq] at he
  obtain ⟨rfl, rfl, rfl⟩ := he
  have hs := fun w => lpr_any P w
  by_cases hE : prB P = false
  · rw [llE_shp hE]
    rw [hE] at hs
    clear hE hy h1 h2 h3
    go_enter Tryz.func107, Tryz.ntmps107
    go_wp2_with (go_at_call 140; (with_reducible refine (hs _).mono ?_); rintro e w' ⟨rfl, rfl⟩)
    go_ret
    exact ⟨rfl, b1 _⟩
  · have hE : prB P = true := by simpa using hE
    obtain ⟨P0, P1⟩ := (prB_iff P).1 hE
    have hl1 : (L.length : Int) ≤ 9223372036854775807 := by unfold maxLen at h2; omega
    have hw := wrapN ⟨P0, P1⟩
    have hN := llN_bd ⟨P0, P1⟩
    have hmo := fun w => lmost_any P w P0 P1
    rw [hE] at hs
    by_cases hL : L.length = llN P
    · have H5 := Lib.hid (fun j (hj : j < L.length) (h : regB P (L.getD j 0) = false) => llE_bad hE hL hj h)
      have H0 := Lib.hid (fun h => llE_all hE hL h)
      have HC := Lib.hid h3
      have HY := Lib.hid (fun k => Rng.at_ hy k)
      have hl2 : L.length ≤ 256 := by omega
      have hlw : ((L.length : Int) != wrap64 (2 ^ P.toNat)) = false := by rw [hw, hL]; simp
      generalize llE P L = E at *
      clear hE hy h3 h1 h2 hw hN hL
      go_enter Tryz.func107, Tryz.ntmps107
      go_wp2_with (go_at_call 140; (with_reducible refine (hs _).mono ?_); rintro e w' ⟨rfl, rfl⟩)
      go_big_region
      go_wp2
      go_loopw [19] (fun i wr => ∃ k : Nat, k ≤ L.length ∧ i = .int .i64 (k : Int) ∧ Hid (∀ j, j < k → regB P (L.getD j 0) = true) ∧ Hid (Below w.heap.size w wr ∧ LSt w.heap.size P x (.slice a L.length cap) wr)) (fun i _ => L.length - (intOf i).toNat)
      case atStart => exact ⟨0, by omega, rfl, Lib.hid (fun j hj => by omega), Lib.hid ⟨by first | exact b1 _ | exact (b1 _).drew, by first | exact LSt.new _ _ _ _ _ | exact (LSt.new _ _ _ _ _).drewM 1⟩⟩
      case round =>
        obtain ⟨k, hk, rfl, HA, HX⟩ := hrel
        obtain ⟨⟨p0, p1, p2⟩, -⟩ := HX.out.2
        by_cases hlt : k < L.length
        · obtain ⟨b, off, rfl, hb, hcell⟩ := HC.out (by omega)
          have hc := (HX.out.1.cell (p := ⟨b, off + k, none⟩) hb).trans (hcell k hlt)
          have hbd := HY.out k
          have hlk : (k : Int) < (L.length : Int) := by omega
          by_cases hcb : regB P (L.getD k 0) = true
          · have HN := Lib.hid (fun j (hj : j < k + 1) => show regB P (L.getD j 0) = true from by
              rcases Nat.lt_succ_iff_lt_or_eq.1 hj with h | rfl
              · exact HA.out j h
              · exact hcb)
            have hr := (regB_iff P (L.getD k 0)).1 hcb
            obtain ⟨r0, r1⟩ := hr
            clear hcb hcell
            generalize L.getD k 0 = z at *
            go_wp2_with (go_at_call 141; (with_reducible refine (hmo _).mono ?_); rintro e w' ⟨rfl, rfl⟩)
            go_roundw
            case rel => exact ⟨k + 1, by omega, by go_num, HN, Lib.hid ⟨HX.out.1, HX.out.2⟩⟩
            case measure => simp [intOf]; omega
          · have hcb : regB P (L.getD k 0) = false := by simpa using hcb
            have e5 := H5.out k hlt hcb
            have E5 := Lib.hid e5
            have hr : L.getD k 0 < 0 ∨ (0 ≤ L.getD k 0 ∧ 65 - P < L.getD k 0) := by
              have : ¬ (0 ≤ L.getD k 0 ∧ L.getD k 0 ≤ 65 - P) := fun h => by rw [(regB_iff P _).2 h] at hcb; cases hcb
              omega
            clear hcb hcell H5 H0 e5
            generalize L.getD k 0 = z at *
            rcases hr with hr | ⟨hr0, hr⟩
            · go_wp2_with (go_at_call 141; (with_reducible refine (hmo _).mono ?_); rintro e w' ⟨rfl, rfl⟩)
              go_ret
              exact ⟨ret_int E5.out.symm, HX.out.1⟩
            · go_wp2_with (go_at_call 141; (with_reducible refine (hmo _).mono ?_); rintro e w' ⟨rfl, rfl⟩)
              go_ret
              exact ⟨ret_int E5.out.symm, HX.out.1⟩
        · obtain rfl : k = L.length := by omega
          have E0 := Lib.hid (H0.out HA.out)
          go_wp2
          go_ret
          exact ⟨ret_int E0.out.symm, HX.out.1⟩
    · rw [llE_len hE hL]
      have hlw : ((L.length : Int) != wrap64 (2 ^ P.toNat)) = true := by rw [hw]; simp; omega
      clear hE hy h1 h2 h3 hw hN hL
      go_enter Tryz.func107, Tryz.ntmps107
      go_wp2_with (go_at_call 140; (with_reducible refine (hs _).mono ?_); rintro e w' ⟨rfl, rfl⟩)
      go_big_region
      go_wp2
      go_ret
      exact ⟨rfl, by first | exact b1 _ | exact (b1 _).drew⟩
end Go.Proofs.YtjibbnknliamkaaGreatDoor
