/- The contract of math/bits.Div64 at this translation, for two words. -/
import Derived.Test.YtjojgpccmedhpaaDoorDiv
import Derived.Test.YtjojgpccmedhpaaDoorDivNums
import Derived.Deep.CutBlock
import Derived.Deep.CutRange
import Derived.Deep.LoopGhost
namespace Go.Proofs.YtjojgpccmedhpaaDoor
open Go.RowKit
set_option linter.unusedVariables false
set_option linter.unusedSimpArgs false
theorem bitLen_log (x : Nat) (h0 : 0 < x) (h1 : x < 18446744073709551616) : ∃ k, k < 64 ∧ Lib.bitLen x = k + 1 ∧ 2 ^ k ≤ x ∧ x < 2 ^ (k + 1) := by
  have hle : 2 ^ x.log2 ≤ x := Nat.log2_self_le (by omega)
  have hlt : x < 2 ^ (x.log2 + 1) := Nat.lt_log2_self
  have hk : x.log2 < 64 := (Nat.log2_lt (by omega)).2 h1
  refine ⟨x.log2, hk, ?_, hle, hlt⟩
  have h2 : x / 2 ^ x.log2 = 1 := by
    have hp : 0 < 2 ^ x.log2 := Nat.two_pow_pos _
    rw [Nat.pow_succ] at hlt
    exact Nat.div_eq_of_lt_le (by omega) (by omega)
  rw [Lib.bitLen_shift _ x hle h1, h2, show Lib.bitLen 1 = 1 by decide]
/-- The divisor normalized, the dividend shifted with it. -/
theorem div_setup (hi lo y : Nat) (h0 : 0 < hi) (h1 : hi < y) (hy : y < 18446744073709551616) (hl : lo < 18446744073709551616) :
    ∃ s : Nat, s ≤ 63 ∧ (64 : Int) - (Lib.bitLen y : Int) = (s : Int) ∧ ∃ Y U32 U10 : Int, IntKind.u64.wrap ((y : Int) * 2 ^ s) = Y ∧ bits .or .u64 (IntKind.u64.wrap ((hi : Int) * 2 ^ s)) ((lo : Int) / 2 ^ (64 - s)) = U32 ∧
      IntKind.u64.wrap ((lo : Int) * 2 ^ s) = U10 ∧ 0 ≤ U10 ∧ U10 < 18446744073709551616 ∧ 9223372036854775808 ≤ Y ∧ Y < 18446744073709551616 ∧ 0 ≤ U32 ∧ U32 < Y ∧
      (U32 * 18446744073709551616 + U10) / Y = ((hi : Int) * 18446744073709551616 + lo) / y := by
  obtain ⟨k, hk, hb, hle, hlt⟩ := bitLen_log y (by omega) hy
  have hp : 0 < 2 ^ (63 - k) := Nat.two_pow_pos _
  have e63 : 2 ^ k * 2 ^ (63 - k) = 9223372036854775808 := by rw [← Nat.pow_add, show k + (63 - k) = 63 by omega]
  have e64 : 2 ^ (k + 1) * 2 ^ (63 - k) = 18446744073709551616 := by rw [← Nat.pow_add, show k + 1 + (63 - k) = 64 by omega]
  have e64' : 2 ^ (64 - (63 - k)) * 2 ^ (63 - k) = 18446744073709551616 := by rw [← Nat.pow_add, show 64 - (63 - k) + (63 - k) = 64 by omega]
  have hY1 : 9223372036854775808 ≤ y * 2 ^ (63 - k) := by rw [← e63]; exact Nat.mul_le_mul_right _ hle
  have hY2 : y * 2 ^ (63 - k) < 18446744073709551616 := by rw [← e64]; exact Nat.mul_lt_mul_of_pos_right hlt hp
  have hh : (hi + 1) * 2 ^ (63 - k) ≤ y * 2 ^ (63 - k) := Nat.mul_le_mul_right _ (by omega)
  rw [Nat.add_mul, Nat.one_mul] at hh
  have ht : lo / 2 ^ (64 - (63 - k)) < 2 ^ (63 - k) := by
    apply Nat.div_lt_of_lt_mul
    rw [e64']; exact hl
  have hq : lo * 2 ^ (63 - k) / 18446744073709551616 = lo / 2 ^ (64 - (63 - k)) := by
    rw [← e64']; exact Nat.mul_div_mul_right _ _ hp
  have hor : bits .or .u64 (IntKind.u64.wrap ((hi : Int) * 2 ^ (63 - k))) ((lo : Int) / 2 ^ (64 - (63 - k))) = ((hi * 2 ^ (63 - k) + lo / 2 ^ (64 - (63 - k)) : Nat) : Int) := by
    have w1 : IntKind.u64.wrap ((hi : Int) * 2 ^ (63 - k)) = ((hi * 2 ^ (63 - k) : Nat) : Int) := by
      rw [IntKind.wrap_u64, show ((hi : Int) * 2 ^ (63 - k)) = ((hi * 2 ^ (63 - k) : Nat) : Int) by simp]; omega
    have w2 : (lo : Int) / 2 ^ (64 - (63 - k)) = ((lo / 2 ^ (64 - (63 - k)) : Nat) : Int) := by simp
    rw [w1, w2, bits_or_u64_nat _ _ (by omega) (by omega)]
    have h := Nat.shiftLeft_add_eq_or_of_lt ht hi
    rw [Nat.shiftLeft_eq] at h
    rw [← h]
  refine ⟨63 - k, by omega, by rw [hb]; omega, ((y * 2 ^ (63 - k) : Nat) : Int), ((hi * 2 ^ (63 - k) + lo / 2 ^ (64 - (63 - k)) : Nat) : Int), ((lo * 2 ^ (63 - k) % 18446744073709551616 : Nat) : Int), ?_, hor, ?_, by omega, by omega, by omega, by omega, by omega, by omega, ?_⟩
  · rw [IntKind.wrap_u64, show ((y : Int) * 2 ^ (63 - k)) = ((y * 2 ^ (63 - k) : Nat) : Int) by simp]; omega
  · rw [IntKind.wrap_u64, show ((lo : Int) * 2 ^ (63 - k)) = ((lo * 2 ^ (63 - k) : Nat) : Int) by simp]; omega
  · have e : (hi * 2 ^ (63 - k) + lo / 2 ^ (64 - (63 - k))) * 18446744073709551616 + lo * 2 ^ (63 - k) % 18446744073709551616 = (hi * 18446744073709551616 + lo) * 2 ^ (63 - k) := by
      rw [← hq]
      have := Nat.div_add_mod (lo * 2 ^ (63 - k)) 18446744073709551616
      have h3 : (hi * 18446744073709551616 + lo) * 2 ^ (63 - k) = hi * 2 ^ (63 - k) * 18446744073709551616 + lo * 2 ^ (63 - k) := by
        rw [Nat.add_mul, Nat.mul_right_comm]
      omega
    have h4 : ((hi * 2 ^ (63 - k) + lo / 2 ^ (64 - (63 - k))) * 18446744073709551616 + lo * 2 ^ (63 - k) % 18446744073709551616) / (y * 2 ^ (63 - k)) = (hi * 18446744073709551616 + lo) / y := by
      rw [e]; exact Nat.mul_div_mul_right _ _ hp
    have h5 := congrArg (fun n : Nat => (n : Int)) h4
    simp only [Int.natCast_ediv, Int.natCast_add, Int.natCast_mul] at h5 ⊢
    exact h5
set_option maxHeartbeats 4000000 in
set_option maxRecDepth 100000 in
theorem div64_walk (hi lo y : Int) (s : Nat) (Y U32 U10 V1 V0 U1 U0 P Q1 R1 P2 Q2 : Int) (w : World) (a0 : 0 < hi) (a1 : hi < y) (a2 : y ≤ 18446744073709551615) (b0 : 0 ≤ lo) (b1 : lo ≤ 18446744073709551615) (hs : s ≤ 63)
    (hlz : ∀ w, Calls Tryd.prog 28 #[.int .u64 y] w fun e w' => e = .returned (.int .i64 (s : Int)) ∧ w = w')
    (eY : IntKind.u64.wrap (y * 2 ^ s) = Y) (eU : bits .or .u64 (IntKind.u64.wrap (hi * 2 ^ s)) (lo / 2 ^ (64 - s)) = U32) (eL : IntKind.u64.wrap (lo * 2 ^ s) = U10)
    (eV1 : Y / 4294967296 = V1) (eV0 : bits .and .u64 Y 4294967295 = V0) (eU1 : U10 / 4294967296 = U1) (eU0 : bits .and .u64 U10 4294967295 = U0)
    (d1 : Hid (Digit Y V1 V0 U32 U1)) (v1 : 2147483648 ≤ V1) (v1' : V1 < 4294967296) (v0 : 0 ≤ V0) (v0' : V0 < 4294967296) (u : 0 ≤ U32) (u' : U32 ≤ 18446744073709551615) (u1 : 0 ≤ U1) (u1' : U1 < 4294967296) (u0 : 0 ≤ U0) (u0' : U0 < 4294967296)
    (q00 : 0 ≤ U32 / V1) (eP : U32 / V1 * V1 = P) (p0 : 0 ≤ P) (p1 : P ≤ U32) (p2 : U32 < P + V1) (hQ1 : Hid (dig Y U32 U1 = Q1)) (g1 : Hid (Guess Y V1 U32 U1 (U32 / V1) (U32 - P)))
    (eR1 : IntKind.u64.wrap (IntKind.u64.wrap (IntKind.u64.wrap (U32 * 4294967296) + U1) - IntKind.u64.wrap (Q1 * Y)) = R1) (r0 : 0 ≤ R1) (r1 : R1 ≤ 18446744073709551615) (d2 : Hid (Digit Y V1 V0 R1 U0))
    (q20 : 0 ≤ R1 / V1) (eP2 : R1 / V1 * V1 = P2) (p20 : 0 ≤ P2) (p21 : P2 ≤ R1) (p22 : R1 < P2 + V1) (hQ2 : Hid (dig Y R1 U0 = Q2)) (g2 : Hid (Guess Y V1 R1 U0 (R1 / V1) (R1 - P2)))
    (q1 : 0 ≤ Q1) (q1' : Q1 < 4294967296) (q2 : 0 ≤ Q2) (q2' : Q2 < 4294967296) :
    Calls Tryd.prog 26 #[.int .u64 hi, .int .u64 lo, .int .u64 y] w fun e w' => ∃ r, e = .returned (.tuple #[.int .u64 (Q1 * 4294967296 + Q2), .int .u64 r]) ∧ w = w' := by
  have hyh : decide (y ≤ hi) = false := by simp; omega
  go_enter Tryd.func26, Tryd.ntmps26
  go_upto_block 0 with (go_at_call 28; refine (hlz _).mono ?_; rintro e w' ⟨rfl, rfl⟩)
  go_cut [15] from 67 to 85 (fun q wx => q = .int .u64 Q1 ∧ wx = w)
  case first =>
    clear eY eU eL eV1 eV0 eU1 eU0 eP hlz eR1 eP2
    go_wp2_with fail
    go_loop [15, 16] (fun a b => ∃ q r : Int, a = .int .u64 q ∧ b = .int .u64 r ∧ Hid (Guess Y V1 U32 U1 q r) ∧ 0 ≤ q ∧ q ≤ U32 ∧ 0 ≤ r ∧ r < 4294967296) (fun a _ => (intOf a).toNat)
    case atStart => exact ⟨U32 / V1, U32 - P, rfl, rfl, g1, q00, by have := (Guess.bound d1.out g1.out).2; omega, by omega, by omega⟩
    case round =>
      obtain ⟨q, r, rfl, rfl, g, hq0, hq1, hr0, hr1⟩ := hrel
      clear g1
      by_cases hqb : 4294967296 ≤ q
      · have hn := Lib.hid (Guess.step d1.out g.out (.inl hqb))
        have hb1 := (Guess.bound d1.out hn.out).1
        have hb2 := (Guess.bound d1.out hn.out).2
        by_cases hfar : 4294967296 ≤ r + V1
        · have he := Lib.hid (Guess.far d1.out hn.out hfar)
          go_wp2_with fail
          go_meet
          case rel => exact ⟨congrArg (Value.int .u64) (he.out.trans hQ1.out), rfl⟩
        · go_wp2_with fail
          go_round
          case rel => exact ⟨q - 1, r + V1, rfl, rfl, hn, hb1, hb2, by omega, by omega⟩
          case measure => simp [intOf]; omega
      · obtain ⟨T, eT⟩ : ∃ T, q * V0 = T := ⟨_, rfl⟩
        have hT0 : 0 ≤ T := eT ▸ Int.mul_nonneg hq0 v0
        have hT1 : T ≤ 4294967295 * 4294967295 := eT ▸ Int.mul_le_mul (by omega) (by omega) v0 (by omega)
        by_cases htest : 4294967296 * r + U1 < T
        · have hn := Lib.hid (Guess.step d1.out g.out (.inr (by rw [eT]; exact htest)))
          have hb1 := (Guess.bound d1.out hn.out).1
          have hb2 := (Guess.bound d1.out hn.out).2
          by_cases hfar : 4294967296 ≤ r + V1
          · have he := Lib.hid (Guess.far d1.out hn.out hfar)
            go_wp2_with fail
            go_meet
            case rel => exact ⟨congrArg (Value.int .u64) (he.out.trans hQ1.out), rfl⟩
          · go_wp2_with fail
            go_round
            case rel => exact ⟨q - 1, r + V1, rfl, rfl, hn, hb1, hb2, by omega, by omega⟩
            case measure => simp [intOf]; omega
        · have he := Lib.hid (Guess.done d1.out g.out (by rw [eT]; omega))
          go_wp2_with fail
          go_meet
          case rel => exact ⟨congrArg (Value.int .u64) (he.out.trans hQ1.out), rfl⟩
  case rest =>
    obtain ⟨rfl, rfl⟩ := hcut
    clear eY eU eL eV1 eV0 eU1 eU0 eP hlz g1 d1
    go_upto_block 2 with fail
    go_cut [18] from 102 to 120 (fun q wx => q = .int .u64 Q2 ∧ wx = wc)
    case first =>
      clear eR1 eP2
      go_wp2_with fail
      go_loop [18, 16] (fun a b => ∃ q r : Int, a = .int .u64 q ∧ b = .int .u64 r ∧ Hid (Guess Y V1 R1 U0 q r) ∧ 0 ≤ q ∧ q ≤ R1 ∧ 0 ≤ r ∧ r < 4294967296) (fun a _ => (intOf a).toNat)
      case atStart => exact ⟨R1 / V1, R1 - P2, rfl, rfl, g2, q20, by have := (Guess.bound d2.out g2.out).2; omega, by omega, by omega⟩
      case round =>
        obtain ⟨q, r, rfl, rfl, g, hq0, hq1, hr0, hr1⟩ := hrel
        clear g2
        by_cases hqb : 4294967296 ≤ q
        · have hn := Lib.hid (Guess.step d2.out g.out (.inl hqb))
          have hb1 := (Guess.bound d2.out hn.out).1
          have hb2 := (Guess.bound d2.out hn.out).2
          by_cases hfar : 4294967296 ≤ r + V1
          · have he := Lib.hid (Guess.far d2.out hn.out hfar)
            go_wp2_with fail
            go_meet
            case rel => exact ⟨congrArg (Value.int .u64) (he.out.trans hQ2.out), rfl⟩
          · go_wp2_with fail
            go_round
            case rel => exact ⟨q - 1, r + V1, rfl, rfl, hn, hb1, hb2, by omega, by omega⟩
            case measure => simp [intOf]; omega
        · obtain ⟨T, eT⟩ : ∃ T, q * V0 = T := ⟨_, rfl⟩
          have hT0 : 0 ≤ T := eT ▸ Int.mul_nonneg hq0 v0
          have hT1 : T ≤ 4294967295 * 4294967295 := eT ▸ Int.mul_le_mul (by omega) (by omega) v0 (by omega)
          by_cases htest : 4294967296 * r + U0 < T
          · have hn := Lib.hid (Guess.step d2.out g.out (.inr (by rw [eT]; exact htest)))
            have hb1 := (Guess.bound d2.out hn.out).1
            have hb2 := (Guess.bound d2.out hn.out).2
            by_cases hfar : 4294967296 ≤ r + V1
            · have he := Lib.hid (Guess.far d2.out hn.out hfar)
              go_wp2_with fail
              go_meet
              case rel => exact ⟨congrArg (Value.int .u64) (he.out.trans hQ2.out), rfl⟩
            · go_wp2_with fail
              go_round
              case rel => exact ⟨q - 1, r + V1, rfl, rfl, hn, hb1, hb2, by omega, by omega⟩
              case measure => simp [intOf]; omega
          · have he := Lib.hid (Guess.done d2.out g.out (by rw [eT]; omega))
            go_wp2_with fail
            go_meet
            case rel => exact ⟨congrArg (Value.int .u64) (he.out.trans hQ2.out), rfl⟩
    case rest =>
      obtain ⟨rfl, rfl⟩ := hcut
      go_wp2_with fail
      go_ret2
      exact ⟨_, rfl, rfl⟩
end Go.Proofs.YtjojgpccmedhpaaDoor
