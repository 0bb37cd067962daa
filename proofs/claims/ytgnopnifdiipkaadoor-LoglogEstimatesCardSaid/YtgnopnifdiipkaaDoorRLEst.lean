/- The contract of the reference's EstimateLogLog. -/
import Derived.Test.YtgnopnifdiipkaaDoorRLNew
import Derived.Test.YtgnopnifdiipkaaDoorDivs
import Derived.Test.YtgnopnifdiipkaaDoorSameI
namespace Go.Proofs.YtgnopnifdiipkaaDoor
open Go.RowKit
set_option linter.unusedVariables false
set_option linter.unusedSimpArgs false
theorem rmuldiv_any (a b c : Int) (w : World) (a0 : 0 ≤ a) (a1 : a ≤ 9223372036854775807) (b0 : 0 ≤ b) (b1 : b ≤ 9223372036854775807) (c0 : 1 ≤ c) (c1 : c ≤ 9223372036854775807) :
    Calls Tryd.prog 49 #[.int .i64 a, .int .i64 b, .int .i64 c] w fun e w' => e = .returned (.tuple #[.int .i64 (mdN (a * b / c)), .int .i64 (mdE (a * b / c))]) ∧ Below w.heap.size w w' := by
  obtain ⟨hi, lo, p0, p1, q0, q1, e, h⟩ := product_any a b a0 (by omega) b0 (by omega)
  obtain ⟨hi, rfl⟩ : ∃ k : Nat, hi = (k : Int) := ⟨hi.toNat, (Int.toNat_of_nonneg p0).symm⟩
  obtain ⟨lo, rfl⟩ : ∃ k : Nat, lo = (k : Int) := ⟨lo.toNat, (Int.toNat_of_nonneg q0).symm⟩
  obtain ⟨c, rfl⟩ : ∃ k : Nat, c = (k : Int) := ⟨c.toNat, (Int.toNat_of_nonneg (by omega)).symm⟩
  have e2 : a * b = ((hi * 18446744073709551616 + lo : Nat) : Int) := by rw [e]; simp
  rw [e2]
  exact ref_muldiv_walk a b c hi lo _ w a0 a1 b0 b1 (by omega) (by omega) (by omega) (by omega) (Lib.hid rfl) h
theorem zrI_bd {n : Int} (h : 0 ≤ n) : 0 ≤ zrI n ∧ zrI n ≤ 1125899906842624 := by
  unfold zrI
  split
  · have : 2 ^ (50 - n).toNat ≤ 2 ^ 50 := Nat.pow_le_pow_right (by decide) (by omega)
    generalize 2 ^ (50 - n).toNat = p at *
    omega
  · omega
theorem zsum_bd {L : List Int} (h : ∀ j, 0 ≤ L.getD j 0) : ∀ k, 0 ≤ zsum L k ∧ zsum L k ≤ (k : Int) * 1125899906842624
  | 0 => by simp [zsum]
  | k + 1 => by
    have := zsum_bd h k
    have := zrI_bd (h k)
    unfold zsum
    omega
/-- Are the first k registers 0? -/
def zfl (L : List Int) : Nat → Bool
  | 0 => true
  | k + 1 => zfl L k && (L.getD k 0 == 0)
theorem zfl_all (L : List Int) : zfl L L.length = L.all (fun n => decide (n = 0)) := by
  have h : ∀ k, k ≤ L.length → zfl L k = (L.take k).all (fun n => decide (n = 0)) := by
    intro k
    induction k with
    | zero => intro _; simp [zfl]
    | succ k ih =>
      intro hk
      rw [take_snoc L k hk, List.all_append, ← ih (by omega), zfl]
      simp
      rfl
  rw [h _ (Nat.le_refl _), List.take_length]
theorem zr_shift {n : Int} (h0 : 0 ≤ n) (h1 : n ≤ 50) : wrap64 (2 ^ (50 - n).toNat) = zrI n := by
  unfold zrI
  rw [if_pos h1]
  have h : 2 ^ (50 - n).toNat ≤ 2 ^ 50 := Nat.pow_le_pow_right (by decide) (by omega)
  have e : (2 : Int) ^ (50 - n).toNat = ((2 ^ (50 - n).toNat : Nat) : Int) := by simp
  rw [e]
  generalize 2 ^ (50 - n).toNat = p at *
  unfold wrap64
  omega
theorem zr_none {n : Int} (h1 : ¬ n ≤ 50) : zrI n = 0 := by
  unfold zrI
  rw [if_neg h1]
set_option maxRecDepth 100000 in
set_option maxHeartbeats 4000000 in
theorem rlest_any (c : LL) (v : Value) (w : World) (hv : RdL c v w) :
    Calls Tryd.prog 26 #[v] w fun e w' => e = .returned (.tuple #[.int .i64 (llEst c), .int .i64 (llE c.P c.L)]) ∧ Below w.heap.size w w' := by
  obtain ⟨P, x, L⟩ := c
  obtain ⟨a, n, cap, rfl, hR⟩ := hv
  dsimp only at hR ⊢
  have h1 := fun (w' : World) (hb : Below w.heap.size w w') => rlval_any P x L a n cap w' (hR.below hb)
  have C0 := Lib.hid (LSt.new P x (.slice a n cap) 26 w)
  have HB0 := Lib.hid (b1 (a := w) (.cells #[.int .i64 P, .int .u64 x, .slice a n cap] 26))
  unfold llEst
  dsimp only
  by_cases hE : llE P L = 0
  · rw [if_neg (show ¬ llE P L ≠ 0 by simp [hE]), hE]
    obtain ⟨R, hRR⟩ : ∃ R, (if (L.all fun n => decide (n = 0)) = true then 0 else min (wtab.getD (P - 2).toNat 0 * L.length * L.length * 1125899906842624 / max (zsum L L.length) 1 / 1000000) 1099511627776) = R := ⟨_, rfl⟩
    rw [hRR]
    obtain ⟨⟨P0, P1⟩, hlen, hreg⟩ := llE_ok hE
    rw [hE] at h1
    have hN := llN_bd ⟨P0, P1⟩
    have hl2 : L.length ≤ 256 := by omega
    have HM := Lib.hid (fun (k : Nat) => show 0 ≤ L.getD k 0 ∧ L.getD k 0 ≤ 65 from by
      by_cases hk : k < L.length
      · have := hreg (L[k]) (List.getElem_mem hk)
        simp only [List.getD, List.getElem?_eq_getElem hk, Option.getD_some]
        omega
      · simp only [List.getD, List.getElem?_eq_none (Nat.le_of_not_lt hk), Option.getD_none]
        omega)
    have HZB := Lib.hid (fun k => zsum_bd (L := L) (fun j => (HM.out j).1) k)
    have HZ1 : Hid (∀ k, zsum L (k + 1) = zsum L k + zrI (L.getD k 0)) := Lib.hid (fun k => rfl)
    have HF1 : Hid (∀ k, zfl L (k + 1) = (zfl L k && (L.getD k 0 == 0))) := Lib.hid (fun k => rfl)
    have HFA := Lib.hid (zfl_all L)
    rw [← zfl_all] at hRR
    have HRR := Lib.hid hRR
    clear hRR
    have hmd := fun (a c : Int) (w : World) (a0 : 0 ≤ a) (a1 : a ≤ 9223372036854775807) (c0 : 1 ≤ c) (c1 : c ≤ 9223372036854775807) => rmuldiv_any a 1125899906842624 c w a0 a1 (by decide) (by decide) c0 c1
    have HMD := Lib.hid hmd
    have HR := Lib.hid hR
    obtain ⟨a', cap', he⟩ := hR.shape
    simp only [Value.slice.injEq] at he
    obtain ⟨rfl, rfl, rfl⟩ := he
    have HLN := Lib.hid hlen
    clear hE hreg hN hmd hlen
    go_enter Tryd.func26, Tryd.ntmps26
    go_wp2_with (go_at_call 22; (with_reducible refine (h1 _ HB0.out).mono ?_); rintro e w2 ⟨rfl, hb2⟩; have B2 := Lib.hid (bgo HB0.out hb2); have C2 := Lib.hid (C0.out.below hb2 (by simp)); clear hb2)
    clear h1 C0 HB0 hR
    go_loopw [5, 6, 7] (fun z f i wr => ∃ k : Nat, k ≤ L.length ∧ i = .int .i64 (k : Int) ∧ z = .int .i64 (zsum L k) ∧ f = .bool (zfl L k) ∧ Hid (LSt w.heap.size P x (.slice a L.length cap) wr) ∧ Hid (Below w.heap.size w wr)) (fun _ _ i _ => L.length - (intOf i).toNat)
    case atStart => exact ⟨0, by omega, rfl, rfl, rfl, C2, B2⟩
    case round =>
      clear C2 B2
      obtain ⟨k, hk, rfl, rfl, rfl, HC, HBW⟩ := hrel
      obtain ⟨⟨p0, p1, p2⟩, -⟩ := HC.out
      by_cases hlt : k < L.length
      · obtain ⟨_, b, off, rfl, hb, hc⟩ := HR.out.cellAt HBW.out hlt
        have hz := HM.out k
        have hzs := HZB.out k
        have hzr := zrI_bd hz.1
        have HS1 := Lib.hid (HZ1.out k)
        have HS2 := Lib.hid (HF1.out k)
        have hkI : (k : Int) < (L.length : Int) := by omega
        have hsplit : (L.getD k 0 ≤ 50 ∧ wrap64 (2 ^ (50 - L.getD k 0).toNat) = zrI (L.getD k 0)) ∨ (¬ L.getD k 0 ≤ 50 ∧ Hid (zrI (L.getD k 0) = 0)) := by
          by_cases h : L.getD k 0 ≤ 50
          · exact .inl ⟨h, zr_shift hz.1 h⟩
          · exact .inr ⟨h, Lib.hid (zr_none h)⟩
        have hk256 : (k : Int) ≤ 256 := by omega
        generalize L.getD k 0 = q at *
        generalize zrI q = zr at *
        generalize zsum L k = Z at *
        generalize zfl L k = f at *
        obtain ⟨bq, hbq⟩ : ∃ bq : Bool, (q == 0) = bq := ⟨_, rfl⟩
        rw [hbq] at HS2
        rcases hsplit with ⟨hs, hw⟩ | ⟨hs, hw⟩
        all_goals
          cases f
          all_goals
            cases bq
            all_goals
              go_wp2
              go_roundw
              case rel => exact ⟨k + 1, by omega, by go_num, by first | (rw [HS1.out]; done) | (rw [HS1.out, hw.out, Int.add_zero]), by first | (rw [HS2.out]; done) | (rw [HS2.out]; rfl), HC, HBW⟩
              case measure => simp [intOf]; omega
      · obtain rfl : k = L.length := by omega
        have hzs := HZB.out L.length
        generalize zfl L L.length = f at *
        generalize zsum L L.length = Z at *
        cases f
        · have hp7 := prB_cases ((prB_iff P).2 ⟨P0, P1⟩)
          have hln := HLN.out
          have hsz := HC.out.size
          have hsz1 : ¬ w.heap.size = wr.heap.size := by omega
          have hsz2 : ¬ wr.heap.size = w.heap.size := by omega
          have hmx : 1 ≤ max Z 1 ∧ max Z 1 ≤ 9223372036854775807 := by omega
          obtain ⟨hm0, hm1⟩ := hmx
          have hR1 : min (wtab.getD (P - 2).toNat 0 * L.length * L.length * 1125899906842624 / max Z 1 / 1000000) 1099511627776 = R := by
            have := HRR.out
            rwa [if_neg (by simp)] at this
          clear hzs HM HZB HZ1 HF1 HR HFA hlt hk hl2 HRR HLN
          generalize L.length = m at *
          rcases hp7 with rfl | rfl | rfl | rfl | rfl | rfl | rfl
          · obtain rfl : m = 4 := hln.trans (by decide)
            rw [show wtab.getD ((2 : Int) - 2).toNat 0 * ((4 : Nat) : Int) * ((4 : Nat) : Int) = 8656000 by decide] at hR1
            have hmd := fun w => HMD.out 8656000 (max Z 1) w (by decide) (by decide) hm0 hm1
            have hq0 : 0 ≤ (8656000 : Int) * 1125899906842624 / max Z 1 := Int.ediv_nonneg (by decide) (by omega)
            generalize (8656000 : Int) * 1125899906842624 / max Z 1 = q at *
            clear HMD hln
            by_cases hbig : 4611686018427387904 < q
            · have hv : R = 1099511627776 := by omega
              subst hv
              rw [show mdN q = 0 by unfold mdN; rw [if_pos hbig], show mdE q = 5 by unfold mdE; rw [if_pos hbig]] at hmd
              clear hR1 hbig hq0
              go_wp2_with (go_at_call 49; (with_reducible refine (hmd _).mono ?_); rintro e w4 ⟨rfl, hb4⟩; have B4 := Lib.hid (bgo (by first | exact HBW.out | exact bal HBW.out _) hb4); clear hb4)
              go_ret2
              exact ⟨rfl, B4.out⟩
            · rw [show mdN q = q by unfold mdN; rw [if_neg hbig], show mdE q = 0 by unfold mdE; rw [if_neg hbig]] at hmd
              have hq1 : q ≤ 4611686018427387904 := by omega
              clear hbig
              subst hR1
              go_wp2_with (go_at_call 49; (with_reducible refine (hmd _).mono ?_); rintro e w4 ⟨rfl, hb4⟩; have B4 := Lib.hid (bgo (by first | exact HBW.out | exact bal HBW.out _) hb4); clear hb4)
              go_ret2
              exact ⟨rfl, B4.out⟩
          · obtain rfl : m = 8 := hln.trans (by decide)
            rw [show wtab.getD ((3 : Int) - 2).toNat 0 * ((8 : Nat) : Int) * ((8 : Nat) : Int) = 40128000 by decide] at hR1
            have hmd := fun w => HMD.out 40128000 (max Z 1) w (by decide) (by decide) hm0 hm1
            have hq0 : 0 ≤ (40128000 : Int) * 1125899906842624 / max Z 1 := Int.ediv_nonneg (by decide) (by omega)
            generalize (40128000 : Int) * 1125899906842624 / max Z 1 = q at *
            clear HMD hln
            by_cases hbig : 4611686018427387904 < q
            · have hv : R = 1099511627776 := by omega
              subst hv
              rw [show mdN q = 0 by unfold mdN; rw [if_pos hbig], show mdE q = 5 by unfold mdE; rw [if_pos hbig]] at hmd
              clear hR1 hbig hq0
              go_wp2_with (go_at_call 49; (with_reducible refine (hmd _).mono ?_); rintro e w4 ⟨rfl, hb4⟩; have B4 := Lib.hid (bgo (by first | exact HBW.out | exact bal HBW.out _) hb4); clear hb4)
              go_ret2
              exact ⟨rfl, B4.out⟩
            · rw [show mdN q = q by unfold mdN; rw [if_neg hbig], show mdE q = 0 by unfold mdE; rw [if_neg hbig]] at hmd
              have hq1 : q ≤ 4611686018427387904 := by omega
              clear hbig
              subst hR1
              go_wp2_with (go_at_call 49; (with_reducible refine (hmd _).mono ?_); rintro e w4 ⟨rfl, hb4⟩; have B4 := Lib.hid (bgo (by first | exact HBW.out | exact bal HBW.out _) hb4); clear hb4)
              go_ret2
              exact ⟨rfl, B4.out⟩
          · obtain rfl : m = 16 := hln.trans (by decide)
            rw [show wtab.getD ((4 : Int) - 2).toNat 0 * ((16 : Nat) : Int) * ((16 : Nat) : Int) = 172288000 by decide] at hR1
            have hmd := fun w => HMD.out 172288000 (max Z 1) w (by decide) (by decide) hm0 hm1
            have hq0 : 0 ≤ (172288000 : Int) * 1125899906842624 / max Z 1 := Int.ediv_nonneg (by decide) (by omega)
            generalize (172288000 : Int) * 1125899906842624 / max Z 1 = q at *
            clear HMD hln
            by_cases hbig : 4611686018427387904 < q
            · have hv : R = 1099511627776 := by omega
              subst hv
              rw [show mdN q = 0 by unfold mdN; rw [if_pos hbig], show mdE q = 5 by unfold mdE; rw [if_pos hbig]] at hmd
              clear hR1 hbig hq0
              go_wp2_with (go_at_call 49; (with_reducible refine (hmd _).mono ?_); rintro e w4 ⟨rfl, hb4⟩; have B4 := Lib.hid (bgo (by first | exact HBW.out | exact bal HBW.out _) hb4); clear hb4)
              go_ret2
              exact ⟨rfl, B4.out⟩
            · rw [show mdN q = q by unfold mdN; rw [if_neg hbig], show mdE q = 0 by unfold mdE; rw [if_neg hbig]] at hmd
              have hq1 : q ≤ 4611686018427387904 := by omega
              clear hbig
              subst hR1
              go_wp2_with (go_at_call 49; (with_reducible refine (hmd _).mono ?_); rintro e w4 ⟨rfl, hb4⟩; have B4 := Lib.hid (bgo (by first | exact HBW.out | exact bal HBW.out _) hb4); clear hb4)
              go_ret2
              exact ⟨rfl, B4.out⟩
          · obtain rfl : m = 32 := hln.trans (by decide)
            rw [show wtab.getD ((5 : Int) - 2).toNat 0 * ((32 : Nat) : Int) * ((32 : Nat) : Int) = 713728000 by decide] at hR1
            have hmd := fun w => HMD.out 713728000 (max Z 1) w (by decide) (by decide) hm0 hm1
            have hq0 : 0 ≤ (713728000 : Int) * 1125899906842624 / max Z 1 := Int.ediv_nonneg (by decide) (by omega)
            generalize (713728000 : Int) * 1125899906842624 / max Z 1 = q at *
            clear HMD hln
            by_cases hbig : 4611686018427387904 < q
            · have hv : R = 1099511627776 := by omega
              subst hv
              rw [show mdN q = 0 by unfold mdN; rw [if_pos hbig], show mdE q = 5 by unfold mdE; rw [if_pos hbig]] at hmd
              clear hR1 hbig hq0
              go_wp2_with (go_at_call 49; (with_reducible refine (hmd _).mono ?_); rintro e w4 ⟨rfl, hb4⟩; have B4 := Lib.hid (bgo (by first | exact HBW.out | exact bal HBW.out _) hb4); clear hb4)
              go_ret2
              exact ⟨rfl, B4.out⟩
            · rw [show mdN q = q by unfold mdN; rw [if_neg hbig], show mdE q = 0 by unfold mdE; rw [if_neg hbig]] at hmd
              have hq1 : q ≤ 4611686018427387904 := by omega
              clear hbig
              subst hR1
              go_wp2_with (go_at_call 49; (with_reducible refine (hmd _).mono ?_); rintro e w4 ⟨rfl, hb4⟩; have B4 := Lib.hid (bgo (by first | exact HBW.out | exact bal HBW.out _) hb4); clear hb4)
              go_ret2
              exact ⟨rfl, B4.out⟩
          · obtain rfl : m = 64 := hln.trans (by decide)
            rw [show wtab.getD ((6 : Int) - 2).toNat 0 * ((64 : Nat) : Int) * ((64 : Nat) : Int) = 2904064000 by decide] at hR1
            have hmd := fun w => HMD.out 2904064000 (max Z 1) w (by decide) (by decide) hm0 hm1
            have hq0 : 0 ≤ (2904064000 : Int) * 1125899906842624 / max Z 1 := Int.ediv_nonneg (by decide) (by omega)
            generalize (2904064000 : Int) * 1125899906842624 / max Z 1 = q at *
            clear HMD hln
            by_cases hbig : 4611686018427387904 < q
            · have hv : R = 1099511627776 := by omega
              subst hv
              rw [show mdN q = 0 by unfold mdN; rw [if_pos hbig], show mdE q = 5 by unfold mdE; rw [if_pos hbig]] at hmd
              clear hR1 hbig hq0
              go_wp2_with (go_at_call 49; (with_reducible refine (hmd _).mono ?_); rintro e w4 ⟨rfl, hb4⟩; have B4 := Lib.hid (bgo (by first | exact HBW.out | exact bal HBW.out _) hb4); clear hb4)
              go_ret2
              exact ⟨rfl, B4.out⟩
            · rw [show mdN q = q by unfold mdN; rw [if_neg hbig], show mdE q = 0 by unfold mdE; rw [if_neg hbig]] at hmd
              have hq1 : q ≤ 4611686018427387904 := by omega
              clear hbig
              subst hR1
              go_wp2_with (go_at_call 49; (with_reducible refine (hmd _).mono ?_); rintro e w4 ⟨rfl, hb4⟩; have B4 := Lib.hid (bgo (by first | exact HBW.out | exact bal HBW.out _) hb4); clear hb4)
              go_ret2
              exact ⟨rfl, B4.out⟩
          · obtain rfl : m = 128 := hln.trans (by decide)
            rw [show wtab.getD ((7 : Int) - 2).toNat 0 * ((128 : Nat) : Int) * ((128 : Nat) : Int) = 11718983680 by decide] at hR1
            have hmd := fun w => HMD.out 11718983680 (max Z 1) w (by decide) (by decide) hm0 hm1
            have hq0 : 0 ≤ (11718983680 : Int) * 1125899906842624 / max Z 1 := Int.ediv_nonneg (by decide) (by omega)
            generalize (11718983680 : Int) * 1125899906842624 / max Z 1 = q at *
            clear HMD hln
            by_cases hbig : 4611686018427387904 < q
            · have hv : R = 1099511627776 := by omega
              subst hv
              rw [show mdN q = 0 by unfold mdN; rw [if_pos hbig], show mdE q = 5 by unfold mdE; rw [if_pos hbig]] at hmd
              clear hR1 hbig hq0
              go_wp2_with (go_at_call 49; (with_reducible refine (hmd _).mono ?_); rintro e w4 ⟨rfl, hb4⟩; have B4 := Lib.hid (bgo (by first | exact HBW.out | exact bal HBW.out _) hb4); clear hb4)
              go_ret2
              exact ⟨rfl, B4.out⟩
            · rw [show mdN q = q by unfold mdN; rw [if_neg hbig], show mdE q = 0 by unfold mdE; rw [if_neg hbig]] at hmd
              have hq1 : q ≤ 4611686018427387904 := by omega
              clear hbig
              subst hR1
              go_wp2_with (go_at_call 49; (with_reducible refine (hmd _).mono ?_); rintro e w4 ⟨rfl, hb4⟩; have B4 := Lib.hid (bgo (by first | exact HBW.out | exact bal HBW.out _) hb4); clear hb4)
              go_ret2
              exact ⟨rfl, B4.out⟩
          · obtain rfl : m = 256 := hln.trans (by decide)
            rw [show wtab.getD ((8 : Int) - 2).toNat 0 * ((256 : Nat) : Int) * ((256 : Nat) : Int) = 47072608256 by decide] at hR1
            have hmd := fun w => HMD.out 47072608256 (max Z 1) w (by decide) (by decide) hm0 hm1
            have hq0 : 0 ≤ (47072608256 : Int) * 1125899906842624 / max Z 1 := Int.ediv_nonneg (by decide) (by omega)
            generalize (47072608256 : Int) * 1125899906842624 / max Z 1 = q at *
            clear HMD hln
            by_cases hbig : 4611686018427387904 < q
            · have hv : R = 1099511627776 := by omega
              subst hv
              rw [show mdN q = 0 by unfold mdN; rw [if_pos hbig], show mdE q = 5 by unfold mdE; rw [if_pos hbig]] at hmd
              clear hR1 hbig hq0
              go_wp2_with (go_at_call 49; (with_reducible refine (hmd _).mono ?_); rintro e w4 ⟨rfl, hb4⟩; have B4 := Lib.hid (bgo (by first | exact HBW.out | exact bal HBW.out _) hb4); clear hb4)
              go_ret2
              exact ⟨rfl, B4.out⟩
            · rw [show mdN q = q by unfold mdN; rw [if_neg hbig], show mdE q = 0 by unfold mdE; rw [if_neg hbig]] at hmd
              have hq1 : q ≤ 4611686018427387904 := by omega
              clear hbig
              subst hR1
              go_wp2_with (go_at_call 49; (with_reducible refine (hmd _).mono ?_); rintro e w4 ⟨rfl, hb4⟩; have B4 := Lib.hid (bgo (by first | exact HBW.out | exact bal HBW.out _) hb4); clear hb4)
              go_ret2
              exact ⟨rfl, B4.out⟩
        · have hR0 : R = 0 := by
            have := HRR.out
            rw [if_pos rfl] at this
            exact this.symm
          subst hR0
          go_wp2
          go_ret2
          exact ⟨rfl, HBW.out⟩
  · rw [if_pos (show llE P L ≠ 0 from hE)]
    have hE2 : (llE P L != 0) = true := by simpa using hE
    generalize llE P L = E at *
    clear hE
    go_enter Tryd.func26, Tryd.ntmps26
    go_wp2_with (go_at_call 22; (with_reducible refine (h1 _ HB0.out).mono ?_); rintro e w2 ⟨rfl, hb2⟩; have B2 := Lib.hid (bgo HB0.out hb2); clear hb2)
    go_ret2
    exact ⟨rfl, B2.out⟩
end Go.Proofs.YtgnopnifdiipkaaDoor
