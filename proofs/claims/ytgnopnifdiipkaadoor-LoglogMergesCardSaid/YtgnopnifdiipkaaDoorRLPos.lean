/- The contract of the reference's Position. -/
import Derived.Test.YtgnopnifdiipkaaDoorRLNew
import Derived.Test.YtgnopnifdiipkaaDoorWords
namespace Go.Proofs.YtgnopnifdiipkaaDoor
open Go.RowKit
set_option linter.unusedVariables false
set_option linter.unusedSimpArgs false
theorem bitLen_at (x k : Nat) (hx : x < 18446744073709551616) (hk : k < 64) (hlt : x < 2 ^ (64 - k)) (hb : x.testBit (63 - k) = true) : Lib.bitLen x = 64 - k := by
  have hp : 0 < 2 ^ (63 - k) := Nat.two_pow_pos _
  have hge : 2 ^ (63 - k) ≤ x := Nat.ge_two_pow_of_testBit hb
  have e : 2 ^ (64 - k) = 2 ^ (63 - k) * 2 := by rw [← Nat.pow_succ]; congr 1; omega
  have h1 : x / 2 ^ (63 - k) = 1 := Nat.div_eq_of_lt_le (by omega) (by omega)
  rw [Lib.bitLen_shift (63 - k) x hge hx, h1, show Lib.bitLen 1 = 1 by decide]
  omega
theorem lt_at (x k : Nat) (hk : k < 64) (hlt : x < 2 ^ (64 - k)) (hb : x.testBit (63 - k) = false) : x < 2 ^ (64 - (k + 1)) := by
  have e : 64 - (k + 1) = 63 - k := by omega
  rw [e]
  apply Nat.lt_pow_two_of_testBit
  intro i hi
  by_cases h : i = 63 - k
  · rw [h, hb]
  · exact Nat.testBit_lt_two_pow (Nat.lt_of_lt_of_le hlt (Nat.pow_le_pow_right (by decide) (by omega)))
theorem bitLen_le (y : Nat) : ∀ j : Nat, j ≤ 64 → y < 2 ^ j → Lib.bitLen y ≤ j
  | 0, _, h => by
    obtain rfl : y = 0 := by simpa using h
    decide
  | j + 1, hj, h => by
    have hy : y < 18446744073709551616 := Nat.lt_of_lt_of_le h (Nat.le_trans (Nat.pow_le_pow_right (by decide) hj) (by decide))
    cases hb : y.testBit j
    · have := lt_at y (63 - j) (by omega) (by rw [show 64 - (63 - j) = j + 1 by omega]; exact h) (by rw [show 63 - (63 - j) = j by omega]; exact hb)
      rw [show 64 - (63 - j + 1) = j by omega] at this
      exact Nat.le_succ_of_le (bitLen_le y j (by omega) this)
    · have := bitLen_at y (63 - j) hy (by omega) (by rw [show 64 - (63 - j) = j + 1 by omega]; exact h) (by rw [show 63 - (63 - j) = j by omega]; exact hb)
      omega
theorem rnkI_bd {P x : Int} {k : ByteArray} (h : 2 ≤ P ∧ P ≤ 8) : 1 ≤ rnkI P x k ∧ rnkI P x k ≤ 65 - P := by
  have h1 : lowL P x k < 2 ^ (64 - P.toNat) := Nat.mod_lt _ (Nat.two_pow_pos _)
  have h2 := bitLen_le _ _ (by omega) h1
  unfold rnkI
  omega
set_option maxRecDepth 100000 in
set_option maxHeartbeats 1000000 in
theorem rpos_any (P x : Int) (k : ByteArray) (w : World) (x0 : 0 ≤ x) (x1 : x ≤ 18446744073709551615) (hk : k.size ≤ maxLen) :
    Calls Tryd.prog 14 #[.int .i64 P, .int .u64 x, .string k] w fun e w' => e = .returned (.tuple #[.int .i64 (posR P x k), .int .i64 (posK P x k), .int .i64 (posE P k)]) ∧ Below w.heap.size w w' := by
  have h1 := fun w => risKey_any k w hk
  have h2 := fun w => rwithin_any P 2 8 w
  have h4 := fun w => t_rtab x w x0 x1
  have hb := hashL_bd x k
  unfold maxLen at hk
  by_cases hE : prB P = false
  · have e1 : posE P k = 5 := by unfold posE; rw [if_pos hE]
    have e2 : posR P x k = 0 := by unfold posR; rw [e1, if_neg (by decide)]
    have e3 : posK P x k = 0 := by unfold posK; rw [e1, if_neg (by decide)]
    rw [e1, e2, e3]
    have hq : inW P 2 8 = false := hE
    rw [hq] at h2
    clear e1 e2 e3 h1 h4 hb hq hE
    go_enter Tryd.func14, Tryd.ntmps14
    go_wp2_with (go_at_call 33; refine (h2 _).mono ?_; rintro e w' ⟨rfl, rfl⟩)
    go_ret3
    exact ⟨rfl, Below.refl _ _⟩
  · have hE1 : prB P = true := by simpa using hE
    obtain ⟨P0, P1⟩ := (prB_iff P).1 hE1
    have hq : inW P 2 8 = true := hE1
    rw [hq] at h2
    by_cases hK : keyB (byt k) = false
    · have e1 : posE P k = 7 := by unfold posE; rw [if_neg hE, if_pos hK]
      have e2 : posR P x k = 0 := by unfold posR; rw [e1, if_neg (by decide)]
      have e3 : posK P x k = 0 := by unfold posK; rw [e1, if_neg (by decide)]
      rw [e1, e2, e3]
      rw [hK] at h1
      clear e1 e2 e3 hE h4 hb hq hE1 hK
      go_enter Tryd.func14, Tryd.ntmps14
      go_wp2_with (first
        | (go_at_call 33; (with_reducible refine (h2 _).mono ?_); rintro e w' ⟨rfl, rfl⟩)
        | (go_at_call 39; refine (h1 _).mono ?_; rintro e w' ⟨rfl, rfl⟩))
      go_ret3
      exact ⟨rfl, Below.refl _ _⟩
    · have hK : keyB (byt k) = true := by simpa using hK
      have e1 : posE P k = 0 := by unfold posE; rw [if_neg hE, if_neg (by rw [hK]; simp)]
      have e2 : posR P x k = (regI P x k : Nat) := by unfold posR; rw [e1, if_pos rfl]
      have e3 : posK P x k = rnkI P x k := by unfold posK; rw [e1, if_pos rfl]
      rw [e1, e2, e3]
      rw [hK] at h1
      have hk' : k.size ≤ 140737488355328 := by unfold keyB at hK; rw [byt_len] at hK; simp at hK; omega
      clear hk
      have h5 : ∀ (v : Value) (w' : World), TabIn (tab x 256) v w' → Calls Tryd.prog 40 #[v, .string k] w' fun e w'' => e = .returned (.tuple #[.int .u64 (hashL x k), .int .i64 0]) ∧ w' = w'' :=
        fun v w' h => t_rhash k hk' h
      obtain ⟨p, hp⟩ : ∃ p : Nat, P = (p : Int) := ⟨P.toNat, (Int.toNat_of_nonneg (by omega)).symm⟩
      obtain ⟨h, hh⟩ : ∃ h : Nat, hashL x k = (h : Int) := ⟨(hashL x k).toNat, (Int.toNat_of_nonneg hb.1).symm⟩
      have hh2 : h < 18446744073709551616 := by omega
      have hp2 : 2 ≤ p := by omega
      have hp8 : p ≤ 8 := by omega
      have HR : Hid (((regI P x k : Nat) : Int) = (h : Int) / 2 ^ (64 - p)) := Lib.hid (by
        unfold regI
        rw [hh, hp]
        simp)
      have HW : Hid (wrap64 ((h : Int) / 2 ^ (64 - p)) = ((regI (p : Int) x k : Nat) : Int)) := Lib.hid (by
        have h1 := regI_lt (x := x) (k := k) ⟨P0, P1⟩
        have h2 := llN_bd ⟨P0, P1⟩
        rw [hp] at h1 h2
        have h3 := HR.out
        rw [hp] at h3
        rw [← h3]
        generalize regI (p : Int) x k = r at *
        generalize llN (p : Int) = q at *
        clear h3 hh2 hh HR
        unfold wrap64
        omega)
      obtain ⟨y, hy⟩ : ∃ y : Nat, y = h % 2 ^ (64 - p) := ⟨_, rfl⟩
      have HK : Hid (rnkI P x k = 65 - (p : Int) - (Lib.bitLen y : Nat)) := Lib.hid (by
        unfold rnkI lowL
        rw [hh, hp, hy]
        simp)
      have hy2 : y < 2 ^ (64 - p) := by rw [hy]; exact Nat.mod_lt _ (Nat.two_pow_pos _)
      have hy3 : y < 18446744073709551616 := by
        have : y ≤ h := by rw [hy]; exact Nat.mod_le _ _
        omega
      have HT : Hid (∀ j, j < 64 - p → h.testBit j = y.testBit j) := Lib.hid (fun j hj => by
        rw [hy, Nat.testBit_mod_two_pow]
        simp [hj])
      rw [hh] at h5
      subst hp
      have HY := Lib.hid hy2
      clear e1 e2 e3 hE hq hE1 hb hh hK hy hy2
      go_enter Tryd.func14, Tryd.ntmps14
      go_wp2_with (first
        | (go_at_call 33; (with_reducible refine (h2 _).mono ?_); rintro e w' ⟨rfl, rfl⟩)
        | (go_at_call 39; refine (h1 _).mono ?_; rintro e w' ⟨rfl, rfl⟩)
        | (go_at_call 41; refine (h4 _).mono ?_; rintro e w2 ⟨v, rfl, ht, hb2⟩; have HTab := Lib.hid ht; have B2 := Lib.hid hb2; clear ht hb2)
        | (go_at_call 40; refine (h5 _ _ HTab.out).mono ?_; rintro e w' ⟨rfl, rfl⟩))
      go_loop [11, 12] (fun r i => ∃ n : Nat, p ≤ n ∧ n ≤ 64 ∧ r = .int .i64 (1 + (n : Int) - (p : Int)) ∧ i = .int .i64 (63 - (n : Int)) ∧ Hid (y < 2 ^ (64 - n))) (fun _ i => (intOf i + 1).toNat)
      case atStart => exact ⟨p, by omega, by omega, by go_num, by go_num, HY⟩
      case round =>
        obtain ⟨n, hn0, hn1, rfl, rfl, HN⟩ := hrel
        by_cases hlt : n < 64
        · have hu := u64_bit h (63 - n) hh2
          rw [HT.out (63 - n) (by omega)] at hu
          have hi : (63 - (n : Int)).toNat = 63 - n := by omega
          have hi2 : (0 : Int) ≤ 63 - (n : Int) := by omega
          cases hb : y.testBit (63 - n)
          · rw [hb] at hu
            have hu' : (bits BinOp.and IntKind.u64 ((h : Int) / 2 ^ (63 - n)) 1 == 0) = true := by rw [hu]; rfl
            have H := Lib.hid (lt_at y n hlt HN.out hb)
            clear hu hb
            go_wp2
            go_round
            case rel => exact ⟨n + 1, by omega, by omega, by go_num, by go_num, H⟩
            case measure => simp [intOf]; omega
          · rw [hb] at hu
            have hu' : (bits BinOp.and IntKind.u64 ((h : Int) / 2 ^ (63 - n)) 1 == 0) = false := by rw [hu]; rfl
            have H := Lib.hid (bitLen_at y n hy3 hlt HN.out hb)
            clear hu hb
            go_wp2
            go_ret3
            exact ⟨by rw [HW.out, show rnkI (p : Int) x k = 1 + (n : Int) - (p : Int) by rw [HK.out, H.out]; omega]; rfl, B2.out⟩
        · obtain rfl : n = 64 := by omega
          have H : Hid (y = 0) := Lib.hid (by have := HN.out; simp at this; omega)
          go_wp2
          go_ret3
          exact ⟨by rw [HW.out, show rnkI (p : Int) x k = 65 - (p : Int) by rw [HK.out, H.out, show Lib.bitLen 0 = 0 by decide]; omega]; rfl, B2.out⟩
end Go.Proofs.YtgnopnifdiipkaaDoor
