/- The contracts of coins.place, Bit and Heads, and of the reference's Bit and Heads. -/
import Derived.Test.YtdifilhfmbpalaaDoorCoinNums
import Derived.Test.YtdifilhfmbpalaaDoorWords
import Derived.Test.YtdifilhfmbpalaaDoorStepApp
namespace Go.Proofs.YtdifilhfmbpalaaDoor
open Go.RowKit
set_option linter.unusedVariables false
set_option linter.unusedSimpArgs false
theorem below_drewN' (B : Nat) (w : World) (n : Nat) : Below B w (w.drewN n) := below_drewN (Below.refl B w) n
theorem i64_one (x : Int) : bits .and .i64 x 1 = x % 2 := i64_mask 1 (by decide) x
theorem place_any (k : Nat) (w : World) (hk : k ≤ 9223372036854775807) :
    Calls Tryd.prog 112 #[.int .i64 (k : Int)] w fun e w' => e = .returned (.int .i64 ((7 - k % 8 : Nat) : Int)) ∧ w = w' := by
  go_enter Tryd.func112, Tryd.ntmps112
  go_wp2
  go_ret
  exact ⟨ret_int (by omega), rfl⟩
set_option maxRecDepth 100000 in
set_option maxHeartbeats 1000000 in
theorem bit_any (L : List Int) (v : Value) (i : Int) (w : World) (i0 : -9223372036854775808 ≤ i) (i1 : i ≤ 9223372036854775807) (h : Rd L v w) :
    Calls Tryd.prog 104 #[v, .int .i64 i] w fun e w' => e = .returned (.int .i64 (bitI L i)) ∧ ∃ n, w' = w.drewN n := by
  obtain ⟨hy, a, cap, rfl, h1, h2, h3⟩ := h
  unfold maxLen at h2
  by_cases hneg : i < 0
  · rw [bitI_off (.inl hneg)]
    clear h3
    go_enter Tryd.func104, Tryd.ntmps104
    go_wp2
    go_ret
    exact ⟨rfl, 0, rfl⟩
  · obtain ⟨k, rfl⟩ : ∃ k : Nat, i = (k : Int) := ⟨i.toNat, by omega⟩
    by_cases hlt : k / 8 < L.length
    · rw [bitI_on hlt]
      obtain ⟨b, off, rfl, hb, hcell⟩ := h3 (by omega)
      have hc := hcell (k / 8) hlt
      have hbd := hy.at_ (k / 8)
      have hp := fun w => place_any k w (by omega)
      have hone := i64_one (L.getD (k / 8) 0 / 2 ^ (7 - k % 8))
      have hbn : bitN L k = L.getD (k / 8) 0 / 2 ^ (7 - k % 8) % 2 := rfl
      rw [hbn]
      clear h3 hcell hbn
      have hp7 : 7 - k % 8 ≤ 7 := by omega
      have hq : (k : Int) / 8 = ((k / 8 : Nat) : Int) := by omega
      have hq0 : ((k / 8 : Nat) : Int) < (L.length : Int) := by omega
      have hq1 : k / 8 ≤ 1152921504606846975 := by omega
      generalize L.getD (k / 8) 0 = t at *
      generalize 7 - k % 8 = p at *
      generalize k / 8 = d at *
      have b0 : 0 ≤ t / 2 ^ p := Int.ediv_nonneg hbd.1 (Int.le_of_lt (Int.pow_pos (by decide)))
      have b1 : t / 2 ^ p ≤ 255 := Int.le_trans (Int.ediv_le_self _ hbd.1) hbd.2
      go_enter Tryd.func104, Tryd.ntmps104
      go_wp2
      go_quiet ((go_at_call 112; exact quiet_left (hp _)))
      go_wp2
      go_ret
      exact ⟨rfl, _, rfl⟩
    · rw [bitI_off (.inr (by omega))]
      clear h3
      go_enter Tryd.func104, Tryd.ntmps104
      go_wp2
      go_ret
      exact ⟨rfl, 0, rfl⟩
set_option maxRecDepth 100000 in
set_option maxHeartbeats 1000000 in
theorem rbit_any (L : List Int) (v : Value) (i : Int) (w : World) (i0 : -9223372036854775808 ≤ i) (i1 : i ≤ 9223372036854775807) (h : Rd L v w) :
    Calls Tryd.prog 73 #[v, .int .i64 i] w fun e w' => e = .returned (.int .i64 (bitI L i)) ∧ w = w' := by
  obtain ⟨hy, a, cap, rfl, h1, h2, h3⟩ := h
  unfold maxLen at h2
  by_cases hneg : i < 0
  · rw [bitI_off (.inl hneg)]
    clear h3
    go_enter Tryd.func73, Tryd.ntmps73
    go_wp2
    go_ret
    exact ⟨rfl, rfl⟩
  · obtain ⟨k, rfl⟩ : ∃ k : Nat, i = (k : Int) := ⟨i.toNat, by omega⟩
    by_cases hlt : k / 8 < L.length
    · rw [bitI_on hlt]
      obtain ⟨b, off, rfl, hb, hcell⟩ := h3 (by omega)
      have hc := hcell (k / 8) hlt
      have hbd := hy.at_ (k / 8)
      have hone := i64_one (L.getD (k / 8) 0 / 2 ^ (7 - k % 8))
      have hbn : bitN L k = L.getD (k / 8) 0 / 2 ^ (7 - k % 8) % 2 := rfl
      rw [hbn]
      clear h3 hcell hbn
      have hp7 : 7 - (k : Int) % 8 = ((7 - k % 8 : Nat) : Int) := by omega
      have hp8 : 7 - k % 8 ≤ 7 := by omega
      have hq : (k : Int) / 8 = ((k / 8 : Nat) : Int) := by omega
      have hq0 : ((k / 8 : Nat) : Int) < (L.length : Int) := by omega
      have hq1 : k / 8 ≤ 1152921504606846975 := by omega
      generalize L.getD (k / 8) 0 = t at *
      generalize 7 - k % 8 = p at *
      generalize k / 8 = d at *
      go_enter Tryd.func73, Tryd.ntmps73
      go_wp2
      go_ret
      exact ⟨rfl, rfl⟩
    · rw [bitI_off (.inr (by omega))]
      clear h3
      go_enter Tryd.func73, Tryd.ntmps73
      go_wp2
      go_ret
      exact ⟨rfl, rfl⟩
theorem heads_start (L : List Int) (f t : Int) (f0 : -9223372036854775808 ≤ f) (f1 : f ≤ 9223372036854775807) (hl : L.length ≤ 100000) (h : ¬ lo0 f < hi0 L t) : headsI L f t = 0 := by
  unfold headsI; rw [if_neg h]
theorem headsI_at (L : List Int) (f t : Int) (k : Nat) (h1 : lo0 f ≤ k) (h2 : ¬ k < hi0 L t) (h3 : k = lo0 f ∨ k ≤ hi0 L t) : headsI L f t = cnt L k - cnt L (lo0 f) := by
  unfold headsI
  by_cases h : lo0 f < hi0 L t
  · rw [if_pos h]
    have : k = hi0 L t := by omega
    rw [this]
  · rw [if_neg h]
    have : k = lo0 f := by omega
    rw [this]; omega
end Go.Proofs.YtdifilhfmbpalaaDoor
