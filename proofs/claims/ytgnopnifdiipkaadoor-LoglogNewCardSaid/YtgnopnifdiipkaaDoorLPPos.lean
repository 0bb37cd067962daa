/- The contract of loglog.Position. -/
import Derived.Test.YtgnopnifdiipkaaDoorLPVal
import Derived.Test.YtgnopnifdiipkaaDoorRLPos
import Derived.Test.YtgnopnifdiipkaaDoorBits
namespace Go.Proofs.YtgnopnifdiipkaaDoor
open Go.RowKit
set_option linter.unusedVariables false
set_option linter.unusedSimpArgs false
theorem slz_any (x : Int) (w : World) (h0 : 0 ≤ x) (h1 : x ≤ 18446744073709551615) :
    Calls Tryd.prog 37 #[.int .u64 x] w fun e w' => e = .returned (.int .i64 (64 - (Lib.bitLen x.toNat : Int))) ∧ w = w' := by
  have c := fun w => Tryd.lz64 x w h0 h1
  generalize (64 : Int) - (Lib.bitLen x.toNat : Int) = z at *
  go_enter Tryd.func37, Tryd.ntmps37
  go_wp2_with (go_at_call 61; refine (c _).mono ?_; rintro e w' ⟨rfl, rfl⟩)
  go_ret
  exact ⟨rfl, rfl⟩
/-- The hash moved to the left: its low bits. -/
theorem shl_low (h p : Nat) (hh : h < 18446744073709551616) (hp : p ≤ 64) : h * 2 ^ p % 18446744073709551616 = h % 2 ^ (64 - p) * 2 ^ p := by
  have e : 18446744073709551616 = 2 ^ (64 - p) * 2 ^ p := by
    rw [← Nat.pow_add, show 64 - p + p = 64 by omega]
  rw [e, Nat.mul_mod_mul_right]
theorem bitLen_up (y p : Nat) (hy : y < 2 ^ (64 - p)) (hp : p ≤ 64) (h0 : 0 < y) : Lib.bitLen (y * 2 ^ p) = Lib.bitLen y + p := by
  have hp0 : 0 < 2 ^ p := Nat.two_pow_pos p
  have hx : y * 2 ^ p < 18446744073709551616 := by
    have h := Nat.mul_lt_mul_of_pos_right hy hp0
    rw [← Nat.pow_add, show 64 - p + p = 64 by omega] at h
    exact h
  have hge : 2 ^ p ≤ y * 2 ^ p := Nat.le_mul_of_pos_left _ h0
  have h := Lib.bitLen_shift p (y * 2 ^ p) hge hx
  rw [Nat.mul_div_cancel _ hp0] at h
  omega
theorem rank_eq (y p : Nat) (hy : y < 2 ^ (64 - p)) (hp : p ≤ 64) : min (1 + (64 - (Lib.bitLen (y * 2 ^ p) : Int))) (65 - (p : Int)) = 65 - (p : Int) - (Lib.bitLen y : Nat) := by
  by_cases h0 : 0 < y
  · rw [bitLen_up y p hy hp h0]
    omega
  · obtain rfl : y = 0 := by omega
    rw [Nat.zero_mul, show Lib.bitLen 0 = 0 by decide]
    omega
set_option maxRecDepth 100000 in
set_option maxHeartbeats 1000000 in
theorem lpos_any (P x : Int) (k : ByteArray) (w : World) (x0 : 0 ≤ x) (x1 : x ≤ 18446744073709551615) (hk : k.size ≤ maxLen) :
    Calls Tryd.prog 13 #[.int .i64 P, .int .u64 x, .string k] w fun e w' => e = .returned (.tuple #[.int .i64 (posR P x k), .int .i64 (posK P x k), .int .i64 (posE P k)]) ∧ Below w.heap.size w w' := by
  have h1 := fun w => isKey_any k w hk
  have h2 := fun w => lpr_any P w
  have h4 := fun w => t_tab x w x0 x1
  have hb := hashL_bd x k
  unfold maxLen at hk
  by_cases hE : prB P = false
  · have e1 : posE P k = 5 := by unfold posE; rw [if_pos hE]
    have e2 : posR P x k = 0 := by unfold posR; rw [e1, if_neg (by decide)]
    have e3 : posK P x k = 0 := by unfold posK; rw [e1, if_neg (by decide)]
    rw [e1, e2, e3]
    rw [hE] at h2
    clear e1 e2 e3 h1 h4 hb hE
    go_enter Tryd.func13, Tryd.ntmps13
    go_wp2_with (go_at_call 32; refine (h2 _).mono ?_; rintro e w' ⟨rfl, rfl⟩)
    go_ret3
    exact ⟨rfl, Below.refl _ _⟩
  · have hE1 : prB P = true := by simpa using hE
    obtain ⟨P0, P1⟩ := (prB_iff P).1 hE1
    rw [hE1] at h2
    by_cases hK : keyB (byt k) = false
    · have e1 : posE P k = 7 := by unfold posE; rw [if_neg hE, if_pos hK]
      have e2 : posR P x k = 0 := by unfold posR; rw [e1, if_neg (by decide)]
      have e3 : posK P x k = 0 := by unfold posK; rw [e1, if_neg (by decide)]
      rw [e1, e2, e3]
      rw [hK] at h1
      clear e1 e2 e3 hE h4 hb hE1 hK
      go_enter Tryd.func13, Tryd.ntmps13
      go_wp2_with (first
        | (go_at_call 32; (with_reducible refine (h2 _).mono ?_); rintro e w' ⟨rfl, rfl⟩)
        | (go_at_call 34; refine (h1 _).mono ?_; rintro e w' ⟨rfl, rfl⟩))
      go_ret3
      exact ⟨rfl, Below.refl _ _⟩
    · have hK : keyB (byt k) = true := by simpa using hK
      have e1 : posE P k = 0 := by unfold posE; rw [if_neg hE, if_neg (by rw [hK]; simp)]
      have e2 : posR P x k = (regI P x k : Nat) := by unfold posR; rw [e1, if_pos rfl]
      have e3 : posK P x k = rnkI P x k := by unfold posK; rw [e1, if_pos rfl]
      rw [e1, e2, e3]
      rw [hK] at h1
      have hk' : k.size ≤ 140737488355328 := by unfold keyB at hK; rw [byt_len] at hK; simp at hK; omega
      clear hk
      have h5 : ∀ (v : Value) (w' : World), TabIn (tab x 256) v w' → Calls Tryd.prog 35 #[v, .string k] w' fun e w'' => e = .returned (.tuple #[.int .u64 (hashL x k), .int .i64 0]) ∧ w' = w'' :=
        fun v w' h => t_hash k hk' h
      obtain ⟨p, hp⟩ : ∃ p : Nat, P = (p : Int) := ⟨P.toNat, (Int.toNat_of_nonneg (by omega)).symm⟩
      obtain ⟨h, hh⟩ : ∃ h : Nat, hashL x k = (h : Int) := ⟨(hashL x k).toNat, (Int.toNat_of_nonneg hb.1).symm⟩
      have hh2 : h < 18446744073709551616 := by omega
      have hp2 : 2 ≤ p := by omega
      have hp8 : p ≤ 8 := by omega
      have HR : Hid (((regI P x k : Nat) : Int) = (h : Int) / 2 ^ (64 - p)) := Lib.hid (by
        unfold regI
        rw [hh, hp]
        simp)
      have HW : Hid (wrap64 ((h : Int) / 2 ^ (64 - p)) = ((regI (p : Int) x k : Nat) : Int)) := Lib.hid (by
        have h1 := regI_lt (x := x) (k := k) ⟨P0, P1⟩
        have h2 := llN_bd ⟨P0, P1⟩
        rw [hp] at h1 h2
        have h3 := HR.out
        rw [hp] at h3
        rw [← h3]
        generalize regI (p : Int) x k = r at *
        generalize llN (p : Int) = q at *
        clear h3 hh2 hh HR
        unfold wrap64
        omega)
      obtain ⟨y, hy⟩ : ∃ y : Nat, y = h % 2 ^ (64 - p) := ⟨_, rfl⟩
      have hy2 : y < 2 ^ (64 - p) := by rw [hy]; exact Nat.mod_lt _ (Nat.two_pow_pos _)
      have HK : Hid (min (1 + (64 - (Lib.bitLen (y * 2 ^ p) : Int))) (65 - (p : Int)) = rnkI P x k) := Lib.hid (by
        rw [rank_eq y p hy2 (by omega)]
        unfold rnkI lowL
        rw [hh, hp, hy]
        simp)
      have hsh : IntKind.u64.wrap ((h : Int) * 2 ^ p) = ((y * 2 ^ p : Nat) : Int) := by
        rw [IntKind.wrap_u64, hy, ← shl_low h p hh2 (by omega)]
        simp
      have hlt : y * 2 ^ p < 18446744073709551616 := by
        rw [hy, ← shl_low h p hh2 (by omega)]
        exact Nat.mod_lt _ (by decide)
      have hbl : Lib.bitLen (y * 2 ^ p) ≤ 64 := bitLen_le _ 64 (Nat.le_refl _) hlt
      have hlz := fun w => slz_any ((y * 2 ^ p : Nat) : Int) w (by omega) (by omega)
      rw [Int.toNat_natCast] at hlz
      have hmo := fun w => lmost_any (p : Int) w (by omega) (by omega)
      rw [hh] at h5
      subst hp
      generalize y * 2 ^ p = q at *
      generalize Lib.bitLen q = bl at *
      clear e1 e2 e3 hE hE1 hb hh hK hy hy2 HR
      go_enter Tryd.func13, Tryd.ntmps13
      go_wp2_with (first
        | (go_at_call 32; (with_reducible refine (h2 _).mono ?_); rintro e w' ⟨rfl, rfl⟩)
        | (go_at_call 34; refine (h1 _).mono ?_; rintro e w' ⟨rfl, rfl⟩)
        | (go_at_call 36; refine (h4 _).mono ?_; rintro e w2 ⟨v, rfl, ht, hb2⟩; have HTab := Lib.hid ht; have B2 := Lib.hid hb2; clear ht hb2)
        | (go_at_call 35; refine (h5 _ _ HTab.out).mono ?_; rintro e w' ⟨rfl, rfl⟩)
        | (go_at_call 37; refine (hlz _).mono ?_; rintro e w' ⟨rfl, rfl⟩)
        | (go_at_call 38; refine (hmo _).mono ?_; rintro e w' ⟨rfl, rfl⟩))
      go_ret3
      exact ⟨by rw [HW.out, ← HK.out]; rfl, B2.out⟩
end Go.Proofs.YtgnopnifdiipkaaDoor
