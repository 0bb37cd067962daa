/- The contracts of the document's own MulDiv and CeilDiv (package sketchstoreref1) at this translation. -/
import Derived.Test.YtjojgpccmedhpaaDoorMulDiv
import Derived.Test.YtjojgpccmedhpaaDoorRefSat
import Derived.Test.YtjojgpccmedhpaaDoorMask
namespace Go.Proofs.YtjojgpccmedhpaaDoor
open Go.RowKit
set_option linter.unusedVariables false
set_option linter.unusedSimpArgs false
theorem ref_ceil_ok (a b : Int) (w : World) (a0 : 0 ≤ a) (a1 : a ≤ 9223372036854775807) (b0 : 1 ≤ b) (b1 : b ≤ 9223372036854775807) :
    Calls Tryd.prog 16 #[.int .i64 a, .int .i64 b] w fun e w' => e = .returned (.tuple #[.int .i64 (cdivN a b), .int .i64 0]) ∧ w = w' := by
  have q0 : 0 ≤ a / b := Int.ediv_nonneg a0 (by omega)
  have q1 : a / b ≤ a := Int.ediv_le_self b a0
  have r0 : 0 ≤ a % b := Int.emod_nonneg a (by omega)
  have qr := Int.mul_ediv_add_emod a b
  have hb : ¬ b = 0 := by omega
  by_cases h : 0 < a % b
  · have q2 : a / b ≠ 9223372036854775807 := by
      intro h2
      have h3 : a = 9223372036854775807 := by omega
      have h4 : b = 1 := by
        rw [h2] at qr
        omega
      rw [h4] at h
      omega
    have q3 : a / b < 9223372036854775807 := by omega
    have e : cdivN a b = a / b + 1 := by unfold cdivN; rw [if_pos h]
    rw [e]
    clear e q2 qr
    go_enter Tryd.func16, Tryd.ntmps16
    go_wp2
    go_ret2
    exact ⟨rfl, rfl⟩
  · have e : cdivN a b = a / b := by unfold cdivN; rw [if_neg h]
    rw [e]
    clear e qr
    go_enter Tryd.func16, Tryd.ntmps16
    go_wp2
    go_ret2
    exact ⟨rfl, rfl⟩
theorem ref_ceil_err (a b : Int) (w : World) (h : a < 0 ∨ b < 1) :
    Calls Tryd.prog 16 #[.int .i64 a, .int .i64 b] w fun e w' => e = .returned (.tuple #[.int .i64 0, .int .i64 5]) ∧ w = w' := by
  by_cases h1 : a < 0
  · clear h
    go_enter Tryd.func16, Tryd.ntmps16
    go_wp2
    go_ret2
    exact ⟨rfl, rfl⟩
  · have h2 : b < 1 := by omega
    clear h
    go_enter Tryd.func16, Tryd.ntmps16
    go_wp2
    go_ret2
    exact ⟨rfl, rfl⟩
/-- One bit of a long division. -/
theorem bit_step (N c j : Nat) (hc : 1 ≤ c) : N / 2 ^ j = N / 2 ^ (j + 1) * 2 + (if N.testBit j then 1 else 0) := by
  rw [Nat.testBit_eq_decide_div_mod_eq, Nat.pow_succ, ← Nat.div_div_eq_div_mul]
  generalize N / 2 ^ j = M
  by_cases h : M % 2 = 1
  · simp [h]; omega
  · simp [h]; omega
theorem long_step (M M' c b : Nat) (hc : 1 ≤ c) (h : M' = M * 2 + b) (hb : b ≤ 1) :
    (c ≤ M % c * 2 + b → M' % c = M % c * 2 + b - c ∧ M' / c = M / c * 2 + 1) ∧ (M % c * 2 + b < c → M' % c = M % c * 2 + b ∧ M' / c = M / c * 2) := by
  have e := Nat.div_add_mod M c
  have hr := Nat.mod_lt M (show 0 < c by omega)
  generalize M % c = r at *
  generalize M / c = q at *
  have e2 : M' = c * (q * 2) + (r * 2 + b) := by
    have h2 : c * (q * 2) = c * q * 2 := by rw [Nat.mul_assoc]
    omega
  refine ⟨fun h1 => ?_, fun h1 => ?_⟩
  · have e3 : M' = (r * 2 + b - c) + c * (q * 2 + 1) := by rw [Nat.mul_add, Nat.mul_one]; omega
    rw [e3, Nat.add_mul_mod_self_left, Nat.add_mul_div_left _ _ (by omega), Nat.mod_eq_of_lt (by omega), Nat.div_eq_of_lt (by omega)]
    exact ⟨rfl, by omega⟩
  · have e3 : M' = (r * 2 + b) + c * (q * 2) := by omega
    rw [e3, Nat.add_mul_mod_self_left, Nat.add_mul_div_left _ _ (by omega), Nat.mod_eq_of_lt (by omega), Nat.div_eq_of_lt (by omega)]
    exact ⟨rfl, by omega⟩
theorem or_bit (x b : Nat) (hx : x < 9223372036854775808) (hb : b ≤ 1) : bits .or .u64 ((x : Int) * 2) (b : Int) = (x : Int) * 2 + b := by
  have e : (x : Int) * 2 = ((x * 2 : Nat) : Int) := by omega
  rw [e, bits_or_u64_nat (x * 2) b (by omega) (by omega)]
  have h := Nat.shiftLeft_add_eq_or_of_lt (i := 1) (show b < 2 ^ 1 by omega) x
  rw [Nat.shiftLeft_eq] at h
  have h' : x * 2 ||| b = x * 2 + b := h.symm
  rw [h']
  omega
/-- The bits of a number of two words. -/
theorem two_words_low (hi lo j : Nat) (hl : lo < 18446744073709551616) (hj : j < 64) : (hi * 18446744073709551616 + lo).testBit j = lo.testBit (j % 64) := by
  have h := Nat.testBit_two_pow_mul_add hi (i := 64) (b := lo) (by omega) j
  rw [if_pos hj] at h
  rw [Nat.mod_eq_of_lt hj, ← h, Nat.mul_comm]
theorem two_words_high (hi lo j : Nat) (hl : lo < 18446744073709551616) (hj : 64 ≤ j) (hj2 : j < 128) : (hi * 18446744073709551616 + lo).testBit j = hi.testBit (j % 64) := by
  have h := Nat.testBit_two_pow_mul_add hi (i := 64) (b := lo) (by omega) j
  rw [if_neg (by omega)] at h
  have e : j % 64 = j - 64 := by omega
  rw [e, ← h, Nat.mul_comm]
/-- What a round leaves: rest and quotient of the bits from j on. -/
def Rest (N c j : Nat) (r q : Int) : Prop := r = ((N / 2 ^ j % c : Nat) : Int) ∧ q = ((N / 2 ^ j / c : Nat) : Int)
theorem rest_big {N c j : Nat} {r q : Int} (h : Rest N c j r q) (hq : 4611686018427387904 < q) : mdN ((N : Int) / c) = 0 ∧ mdE ((N : Int) / c) = 5 := by
  have h1 : N / 2 ^ j / c ≤ N / c := Nat.div_le_div_right (Nat.div_le_self _ _)
  have h2 : (N : Int) / c = ((N / c : Nat) : Int) := by simp
  have h3 : 4611686018427387904 < (N : Int) / c := by rw [h2]; have := h.2; omega
  unfold mdN mdE
  rw [if_pos h3, if_pos h3]
  exact ⟨rfl, rfl⟩
theorem rest_done {N c : Nat} {r q : Int} (h : Rest N c 0 r q) : q = (N : Int) / c := by
  have := h.2
  simpa using this
theorem rest_hit {N c j : Nat} {r q : Int} {b : Nat} (hc : 1 ≤ c) (h : Rest N c (j + 1) r q) (hb : (if N.testBit j then 1 else 0) = b) (ht : (c : Int) ≤ r * 2 + b) : Rest N c j (r * 2 + b - c) (q * 2 + 1) := by
  have hs := (long_step (N / 2 ^ (j + 1)) (N / 2 ^ j) c b hc (by rw [← hb]; exact bit_step N c j hc) (by rw [← hb]; split <;> omega)).1 (by have := h.1; omega)
  refine ⟨?_, ?_⟩
  · rw [hs.1]; have := h.1; omega
  · rw [hs.2]; have := h.2; omega
theorem rest_miss {N c j : Nat} {r q : Int} {b : Nat} (hc : 1 ≤ c) (h : Rest N c (j + 1) r q) (hb : (if N.testBit j then 1 else 0) = b) (ht : r * 2 + b < c) : Rest N c j (r * 2 + b) (q * 2) := by
  have hs := (long_step (N / 2 ^ (j + 1)) (N / 2 ^ j) c b hc (by rw [← hb]; exact bit_step N c j hc) (by rw [← hb]; split <;> omega)).2 (by have := h.1; omega)
  refine ⟨?_, ?_⟩
  · rw [hs.1]; have := h.1; omega
  · rw [hs.2]; have := h.2; omega
set_option maxHeartbeats 4000000 in
theorem ref_muldiv_walk (a b : Int) (c hi lo N : Nat) (w : World) (a0 : 0 ≤ a) (a1 : a ≤ 9223372036854775807) (b0 : 0 ≤ b) (b1 : b ≤ 9223372036854775807) (c0 : 1 ≤ c) (c1 : c ≤ 9223372036854775807)
    (p1 : hi ≤ 18446744073709551615) (q1 : lo ≤ 18446744073709551615) (HN : Hid (hi * 18446744073709551616 + lo = N))
    (hm : ∀ w, Calls Tryd.prog 25 #[.int .u64 a, .int .u64 b] w fun e w' => e = .returned (.agg #[.int .u64 hi, .int .u64 lo]) ∧ Below w.heap.size w w') :
    Calls Tryd.prog 14 #[.int .i64 a, .int .i64 b, .int .i64 c] w fun e w' => e = .returned (.tuple #[.int .i64 (mdN ((N : Int) / c)), .int .i64 (mdE ((N : Int) / c))]) ∧ Below w.heap.size w w' := by
  have hn1 : ¬ a < 0 := by omega
  have hn2 : ¬ b < 0 := by omega
  have hn3 : ¬ (c : Int) < 1 := by omega
  go_enter Tryd.func14, Tryd.ntmps14
  go_wp2_with (go_at_call 25; refine (hm _).mono ?_; rintro e w1 ⟨rfl, hb1⟩)
  clear hm
  go_loop [9, 10, 11] (fun x y z => ∃ i r q : Int, -1 ≤ i ∧ i ≤ 127 ∧ z = .int .i64 i ∧ x = .int .u64 r ∧ y = .int .u64 q ∧ Hid (Rest N c (i + 1).toNat r q) ∧ 0 ≤ r ∧ r < c ∧ 0 ≤ q) (fun _ _ z => (intOf z + 1).toNat)
  case atStart =>
    have hN : N < 2 ^ 128 := by have := HN.out; omega
    refine ⟨127, 0, 0, by omega, by omega, rfl, rfl, rfl, Lib.hid ⟨?_, ?_⟩, by omega, by omega, by omega⟩
    · rw [show ((127 : Int) + 1).toNat = 128 by decide, Nat.div_eq_of_lt hN]; simp
    · rw [show ((127 : Int) + 1).toNat = 128 by decide, Nat.div_eq_of_lt hN]; simp
  case round =>
    obtain ⟨i, r, q, hi0, hi1, rfl, rfl, rfl, HR, r0, r1, q0⟩ := hrel
    by_cases hneg : i < 0
    · obtain rfl : i = -1 := by omega
      have hq := Lib.hid (rest_done (c := c) HR.out)
      by_cases hbig : 4611686018427387904 < q
      · have hr := Lib.hid (rest_big HR.out hbig)
        go_wp2
        go_ret2
        exact ⟨by show Ending.returned (.tuple #[.int .i64 0, .int .i64 5]) = _; rw [hr.out.1, hr.out.2], hb1.alloc hb1.size _⟩
      · have e1 : mdN q = q := by unfold mdN; rw [if_neg hbig]
        have e2 : mdE q = 0 := by unfold mdE; rw [if_neg hbig]
        have H1 := Lib.hid e1
        have H2 := Lib.hid e2
        clear e1 e2
        go_wp2
        go_ret2
        exact ⟨by show Ending.returned (.tuple #[.int .i64 q, .int .i64 0]) = _; rw [← hq.out, H1.out, H2.out], hb1.alloc hb1.size _⟩
    · obtain ⟨j, rfl⟩ := Int.eq_ofNat_of_zero_le (show 0 ≤ i by omega)
      have em := i64_mask 6 (by decide) (j : Int)
      have em' : bits .and .i64 (j : Int) 63 = ((j % 64 : Nat) : Int) := by rw [Int.natCast_emod]; exact em
      clear em
      have HJ : Hid (Rest N c (j + 1) r q) := Lib.hid (by have := HR.out; rw [show ((j : Int) + 1).toNat = j + 1 by omega] at this; exact this)
      clear HR
      obtain ⟨b, hb, hb2⟩ : ∃ b : Nat, (if N.testBit j then 1 else 0) = b ∧ b ≤ 1 := ⟨_, rfl, by split <;> omega⟩
      have Hb := Lib.hid hb
      obtain ⟨rn, rfl⟩ := Int.eq_ofNat_of_zero_le r0
      obtain ⟨qn, rfl⟩ := Int.eq_ofNat_of_zero_le q0
      have eor := or_bit rn b (by omega) hb2
      have hlow : j < 64 → bits .and .u64 ((lo : Int) / 2 ^ (j % 64)) 1 = (b : Int) := fun h => by
        rw [u64_bit lo _ (by omega), ← two_words_low hi lo j (by omega) h, HN.out, ← hb]; split <;> rfl
      have hhigh : 64 ≤ j → bits .and .u64 ((hi : Int) / 2 ^ (j % 64)) 1 = (b : Int) := fun h => by
        rw [u64_bit hi _ (by omega), ← two_words_high hi lo j (by omega) h (by omega), HN.out, ← hb]; split <;> rfl
      clear hb
      by_cases hbig : 4611686018427387904 < (qn : Int)
      · have hr := Lib.hid (rest_big HJ.out hbig)
        by_cases h64 : (j : Int) < 64
        · have hbit := hlow (by omega)
          clear hlow hhigh
          go_wp2
          go_ret2
          exact ⟨by show Ending.returned (.tuple #[.int .i64 0, .int .i64 5]) = _; rw [hr.out.1, hr.out.2], hb1.alloc hb1.size _⟩
        · have hbit := hhigh (by omega)
          clear hlow hhigh
          go_wp2
          go_ret2
          exact ⟨by show Ending.returned (.tuple #[.int .i64 0, .int .i64 5]) = _; rw [hr.out.1, hr.out.2], hb1.alloc hb1.size _⟩
      · have eq1 := or_bit qn 1 (by omega) (by omega)
        have eq2 : bits .or .u64 ((qn : Int) * 2) 1 = (qn : Int) * 2 + 1 := eq1
        clear eq1
        by_cases hge : (c : Int) ≤ (rn : Int) * 2 + b
        · have hr := Lib.hid (rest_hit c0 HJ.out Hb.out hge)
          by_cases h64 : (j : Int) < 64
          · have hbit := hlow (by omega)
            clear hlow hhigh
            go_wp2
            go_round
            case rel => exact ⟨(j : Int) - 1, _, _, by omega, by omega, rfl, rfl, rfl, by rw [show ((j : Int) - 1 + 1).toNat = j by omega]; exact hr, by omega, by omega, by omega⟩
            case measure => simp [intOf]
          · have hbit := hhigh (by omega)
            clear hlow hhigh
            go_wp2
            go_round
            case rel => exact ⟨(j : Int) - 1, _, _, by omega, by omega, rfl, rfl, rfl, by rw [show ((j : Int) - 1 + 1).toNat = j by omega]; exact hr, by omega, by omega, by omega⟩
            case measure => simp [intOf]
        · have hr := Lib.hid (rest_miss c0 HJ.out Hb.out (by omega))
          by_cases h64 : (j : Int) < 64
          · have hbit := hlow (by omega)
            clear hlow hhigh
            go_wp2
            go_round
            case rel => exact ⟨(j : Int) - 1, _, _, by omega, by omega, rfl, rfl, rfl, by rw [show ((j : Int) - 1 + 1).toNat = j by omega]; exact hr, by omega, by omega, by omega⟩
            case measure => simp [intOf]
          · have hbit := hhigh (by omega)
            clear hlow hhigh
            go_wp2
            go_round
            case rel => exact ⟨(j : Int) - 1, _, _, by omega, by omega, rfl, rfl, rfl, by rw [show ((j : Int) - 1 + 1).toNat = j by omega]; exact hr, by omega, by omega, by omega⟩
            case measure => simp [intOf]
end Go.Proofs.YtjojgpccmedhpaaDoor
