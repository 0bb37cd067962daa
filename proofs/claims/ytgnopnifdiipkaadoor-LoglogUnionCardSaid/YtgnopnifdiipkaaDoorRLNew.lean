/- The contracts of the reference's NewLogLog and ValidateLogLog. -/
import Derived.Test.YtgnopnifdiipkaaDoorLl
import Derived.Test.YtgnopnifdiipkaaDoorRTally
import Derived.Test.YtgnopnifdiipkaaDoorStepApp
namespace Go.Proofs.YtgnopnifdiipkaaDoor
open Go.RowKit
set_option linter.unusedVariables false
set_option linter.unusedSimpArgs false
theorem prB_cases {P : Int} (h : prB P = true) : P = 2 ∨ P = 3 ∨ P = 4 ∨ P = 5 ∨ P = 6 ∨ P = 7 ∨ P = 8 := by
  have := (prB_iff P).1 h
  omega
theorem wrapN {P : Int} (h : 2 ≤ P ∧ P ≤ 8) : wrap64 (2 ^ P.toNat) = (llN P : Nat) := by
  have hb := llN_bd h
  have e : (2 : Int) ^ P.toNat = ((llN P : Nat) : Int) := by unfold llN; simp
  rw [e]
  unfold wrap64
  omega
set_option maxRecDepth 100000 in
set_option maxHeartbeats 1000000 in
theorem rlnew_any (P x : Int) (w : World) :
    Calls Tryd.prog 12 #[.int .i64 P, .int .u64 x] w fun e w' => ∃ v, e = .returned (.tuple #[v, .int .i64 (newLE P)]) ∧ OwnL w.heap.size (newL P x) v w' ∧ Below w.heap.size w w' := by
  have hs := fun w => rwithin_any P 2 8 w
  unfold newL newLE
  by_cases hE : prB P = true
  · have hq : inW P 2 8 = true := hE
    rw [hq] at hs
    rw [if_pos hE, if_pos hE]
    obtain ⟨P0, P1⟩ := (prB_iff P).1 hE
    have hM := llN_bd ⟨P0, P1⟩
    have hw := wrapN ⟨P0, P1⟩
    generalize llN P = M at *
    have HQ := Lib.hid (show Value.int .i64 (wrap64 (2 ^ P.toNat)) = .int .i64 (M : Int) by rw [hw])
    obtain ⟨hM0, hM1⟩ := hM
    clear hE hq hw
    go_enter Tryd.func12, Tryd.ntmps12
    go_wp2_with (first
      | (go_at_call 33; (with_reducible refine (hs _).mono ?_); rintro e w' ⟨rfl, rfl⟩)
      | (at_make; (refine wp_makeI rfl _ _ rfl M HQ.out HQ.out (by omega) ?_; intro w1 o1 hb1 hlt; have O1 := Lib.hid o1; have B1 := Lib.hid hb1; obtain ⟨hc1, hf1⟩ := bcell hb1; have hz1 : w.heap.size < w1.heap.size := (by simp at hlt; omega); clear o1 hb1)))
    have O2 := O1.out
    have hz : ∀ o, (w.alloc o).heap.size = w.heap.size + 1 := fun o => by simp
    rw [hz] at O2
    refine bodyPost_ret (v := .tuple #[.agg #[.int .i64 P, .int .u64 x, .slice (some ⟨w.heap.size + 1, 0, none⟩) M M], .int .i64 0]) (by simp [results, Tryd.results12, go_sem, *]) rfl ⟨_, rfl, ⟨_, _, _, rfl, (O2.keep3 (Nat.lt_succ_self _) _ _ _).mono (Nat.le_succ _)⟩, ?_⟩
    exact bset3 (bgo (b1 _) B1.out) _ (Nat.le_refl _) _ _ _
  · have hE' : prB P = false := by simpa using hE
    have hq : inW P 2 8 = false := hE'
    rw [hq] at hs
    rw [if_neg hE, if_neg hE]
    clear hE hE' hq
    go_enter Tryd.func12, Tryd.ntmps12
    go_wp2_with (go_at_call 33; refine (hs _).mono ?_; rintro e w' ⟨rfl, rfl⟩)
    refine bodyPost_ret (v := .tuple #[.agg #[.int .i64 0, .int .u64 0, .slice none 0 0], .int .i64 5]) (by simp [results, Tryd.results12, go_sem, *]) rfl ⟨_, rfl, noneL_own _ _, ?_⟩
    first | exact b1 _ | exact bset3 (b1 _) _ (Nat.le_refl _) _ _ _
set_option maxRecDepth 100000 in
set_option maxHeartbeats 1000000 in
theorem rlval_any (P x : Int) (L : List Int) (a : Option Addr) (n cap : Nat) (w : World) (h : RdI L (.slice a n cap) w) :
    Calls Tryd.prog 22 #[.agg #[.int .i64 P, .int .u64 x, .slice a n cap]] w fun e w' => e = .returned (.int .i64 (llE P L)) ∧ Below w.heap.size w w' := by
  obtain ⟨hy, a', cap', he, h1, h2, h3⟩ := h
  simp only [Value.slice.injEq] at he
  obtain ⟨rfl, rfl, rfl⟩ := he
  have hs := fun w => rwithin_any P 2 8 w
  by_cases hE : prB P = false
  · rw [llE_shp hE]
    have hq : inW P 2 8 = false := hE
    rw [hq] at hs
    clear hE hy h1 h2 h3 hq
    go_enter Tryd.func22, Tryd.ntmps22
    go_wp2_with (go_at_call 33; (with_reducible refine (hs _).mono ?_); rintro e w' ⟨rfl, rfl⟩)
    go_ret
    exact ⟨rfl, b1 _⟩
  · have hE : prB P = true := by simpa using hE
    have hq : inW P 2 8 = true := hE
    obtain ⟨P0, P1⟩ := (prB_iff P).1 hE
    have hl1 : (L.length : Int) ≤ 9223372036854775807 := by unfold maxLen at h2; omega
    have hw := wrapN ⟨P0, P1⟩
    have hN := llN_bd ⟨P0, P1⟩
    rw [hq] at hs
    by_cases hL : L.length = llN P
    · have H5 := Lib.hid (fun j (hj : j < L.length) (h : regB P (L.getD j 0) = false) => llE_bad hE hL hj h)
      have H0 := Lib.hid (fun h => llE_all hE hL h)
      have HC := Lib.hid h3
      have HY := Lib.hid (fun k => Rng.at_ hy k)
      have hl2 : L.length ≤ 256 := by omega
      have hlw : ((L.length : Int) != wrap64 (2 ^ P.toNat)) = false := by rw [hw, hL]; simp
      generalize llE P L = E at *
      clear hE hy h3 h1 h2 hq hw hN hL
      go_enter Tryd.func22, Tryd.ntmps22
      go_wp2_with (go_at_call 33; (with_reducible refine (hs _).mono ?_); rintro e w' ⟨rfl, rfl⟩)
      go_loopw [3] (fun i wr => ∃ k : Nat, k ≤ L.length ∧ i = .int .i64 (k : Int) ∧ Hid (∀ j, j < k → regB P (L.getD j 0) = true) ∧ Hid (Below w.heap.size w wr ∧ LSt w.heap.size P x (.slice a L.length cap) wr)) (fun i _ => L.length - (intOf i).toNat)
      case atStart => exact ⟨0, by omega, rfl, Lib.hid (fun j hj => by omega), Lib.hid ⟨b1 _, LSt.new _ _ _ _ _⟩⟩
      case round =>
        obtain ⟨k, hk, rfl, HA, HX⟩ := hrel
        obtain ⟨⟨p0, p1, p2⟩, -⟩ := HX.out.2
        by_cases hlt : k < L.length
        · obtain ⟨b, off, rfl, hb, hcell⟩ := HC.out (by omega)
          have hc := (HX.out.1.cell (p := ⟨b, off + k, none⟩) hb).trans (hcell k hlt)
          have hbd := HY.out k
          have hlk : (k : Int) < (L.length : Int) := by omega
          have hw := fun w => rwithin_any (L.getD k 0) 0 (65 - P) w
          have hce : inW (L.getD k 0) 0 (65 - P) = regB P (L.getD k 0) := rfl
          have hsub : IntKind.i64.wrap (65 - P) = 65 - P := by rw [IntKind.wrap_i64]; omega
          rw [hce] at hw
          by_cases hcb : regB P (L.getD k 0) = true
          · have HN := Lib.hid (fun j (hj : j < k + 1) => show regB P (L.getD j 0) = true from by
              rcases Nat.lt_succ_iff_lt_or_eq.1 hj with h | rfl
              · exact HA.out j h
              · exact hcb)
            rw [hcb] at hw
            clear hcb hcell hce
            generalize L.getD k 0 = z at *
            go_wp2
            go_quiet ((go_at_call 33; exact quiet_left (hw _)))
            go_wp2
            go_roundw
            case rel => exact ⟨k + 1, by omega, by go_num, HN, Lib.hid ⟨below_drewN HX.out.1 _, HX.out.2.drewM _⟩⟩
            case measure => simp [intOf]; omega
          · have hcb : regB P (L.getD k 0) = false := by simpa using hcb
            have e5 := H5.out k hlt hcb
            have E5 := Lib.hid e5
            rw [hcb] at hw
            clear hcb hcell H5 H0 e5 hce
            generalize L.getD k 0 = z at *
            go_wp2
            go_quiet ((go_at_call 33; exact quiet_left (hw _)))
            go_wp2
            go_ret
            exact ⟨ret_int E5.out.symm, below_drewN HX.out.1 _⟩
        · obtain rfl : k = L.length := by omega
          have E0 := Lib.hid (H0.out HA.out)
          go_wp2
          go_ret
          exact ⟨ret_int E0.out.symm, HX.out.1⟩
    · rw [llE_len hE hL]
      have hlw : ((L.length : Int) != wrap64 (2 ^ P.toNat)) = true := by rw [hw]; simp; omega
      clear hE hy h1 h2 h3 hq hw hN hL
      go_enter Tryd.func22, Tryd.ntmps22
      go_wp2_with (go_at_call 33; (with_reducible refine (hs _).mono ?_); rintro e w' ⟨rfl, rfl⟩)
      go_ret
      exact ⟨rfl, b1 _⟩
end Go.Proofs.YtgnopnifdiipkaaDoor
