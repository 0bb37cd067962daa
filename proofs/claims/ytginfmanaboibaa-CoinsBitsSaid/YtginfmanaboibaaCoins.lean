/- The contracts of coins.place, Bit and Heads, and of the reference's Bit and Heads. -/
import Derived.Test.YtginfmanaboibaaCoinNums
import Derived.Test.YtginfmanaboibaaStepApp
namespace Go.Proofs.Ytginfmanaboibaa
open Go.RowKit
set_option linter.unusedVariables false
set_option linter.unusedSimpArgs false
theorem below_drewN' (B : Nat) (w : World) (n : Nat) : Below B w (w.drewN n) := below_drewN (Below.refl B w) n
theorem i64_one (x : Int) : bits .and .i64 x 1 = x % 2 := i64_mask 1 (by decide) x
theorem ret_int {k : IntKind} {a b : Int} (h : a = b) : Ending.returned (.int k a) = .returned (.int k b) := by rw [h]
theorem place_any (k : Nat) (w : World) (hk : k ≤ 9223372036854775807) :
    Calls Try.prog 14 #[.int .i64 (k : Int)] w fun e w' => e = .returned (.int .i64 ((7 - k % 8 : Nat) : Int)) ∧ w = w' := by
  go_enter Try.func14, Try.ntmps14
  go_wp2
  go_ret
  exact ⟨ret_int (by omega), rfl⟩
set_option maxRecDepth 100000 in
set_option maxHeartbeats 1000000 in
theorem bit_any (L : List Int) (v : Value) (i : Int) (w : World) (i0 : -9223372036854775808 ≤ i) (i1 : i ≤ 9223372036854775807) (h : Rd L v w) :
    Calls Try.prog 8 #[v, .int .i64 i] w fun e w' => e = .returned (.int .i64 (bitI L i)) ∧ ∃ n, w' = w.drewN n := by
  obtain ⟨hy, a, cap, rfl, h1, h2, h3⟩ := h
  unfold maxLen at h2
  by_cases hneg : i < 0
  · rw [bitI_off (.inl hneg)]
    clear h3
    go_enter Try.func8, Try.ntmps8
    go_wp2
    go_ret
    exact ⟨rfl, 0, rfl⟩
  · obtain ⟨k, rfl⟩ : ∃ k : Nat, i = (k : Int) := ⟨i.toNat, by omega⟩
    by_cases hlt : k / 8 < L.length
    · rw [bitI_on hlt]
      obtain ⟨b, off, rfl, hb, hcell⟩ := h3 (by omega)
      have hc := hcell (k / 8) hlt
      have hbd := hy.at_ (k / 8)
      have hp := fun w => place_any k w (by omega)
      have hone := i64_one (L.getD (k / 8) 0 / 2 ^ (7 - k % 8))
      have hbn : bitN L k = L.getD (k / 8) 0 / 2 ^ (7 - k % 8) % 2 := rfl
      rw [hbn]
      clear h3 hcell hbn
      have hp7 : 7 - k % 8 ≤ 7 := by omega
      have hq : (k : Int) / 8 = ((k / 8 : Nat) : Int) := by omega
      have hq0 : ((k / 8 : Nat) : Int) < (L.length : Int) := by omega
      have hq1 : k / 8 ≤ 1152921504606846975 := by omega
      generalize L.getD (k / 8) 0 = t at *
      generalize 7 - k % 8 = p at *
      generalize k / 8 = d at *
      have b0 : 0 ≤ t / 2 ^ p := Int.ediv_nonneg hbd.1 (Int.le_of_lt (Int.pow_pos (by decide)))
      have b1 : t / 2 ^ p ≤ 255 := Int.le_trans (Int.ediv_le_self _ hbd.1) hbd.2
      go_enter Try.func8, Try.ntmps8
      go_wp2
      go_quiet ((go_at_call 14; exact quiet_left (hp _)))
      go_wp2
      go_ret
      exact ⟨rfl, _, rfl⟩
    · rw [bitI_off (.inr (by omega))]
      clear h3
      go_enter Try.func8, Try.ntmps8
      go_wp2
      go_ret
      exact ⟨rfl, 0, rfl⟩
set_option maxRecDepth 100000 in
set_option maxHeartbeats 1000000 in
theorem rbit_any (L : List Int) (v : Value) (i : Int) (w : World) (i0 : -9223372036854775808 ≤ i) (i1 : i ≤ 9223372036854775807) (h : Rd L v w) :
    Calls Try.prog 9 #[v, .int .i64 i] w fun e w' => e = .returned (.int .i64 (bitI L i)) ∧ w = w' := by
  obtain ⟨hy, a, cap, rfl, h1, h2, h3⟩ := h
  unfold maxLen at h2
  by_cases hneg : i < 0
  · rw [bitI_off (.inl hneg)]
    clear h3
    go_enter Try.func9, Try.ntmps9
    go_wp2
    go_ret
    exact ⟨rfl, rfl⟩
  · obtain ⟨k, rfl⟩ : ∃ k : Nat, i = (k : Int) := ⟨i.toNat, by omega⟩
    by_cases hlt : k / 8 < L.length
    · rw [bitI_on hlt]
      obtain ⟨b, off, rfl, hb, hcell⟩ := h3 (by omega)
      have hc := hcell (k / 8) hlt
      have hbd := hy.at_ (k / 8)
      have hone := i64_one (L.getD (k / 8) 0 / 2 ^ (7 - k % 8))
      have hbn : bitN L k = L.getD (k / 8) 0 / 2 ^ (7 - k % 8) % 2 := rfl
      rw [hbn]
      clear h3 hcell hbn
      have hp7 : 7 - (k : Int) % 8 = ((7 - k % 8 : Nat) : Int) := by omega
      have hp8 : 7 - k % 8 ≤ 7 := by omega
      have hq : (k : Int) / 8 = ((k / 8 : Nat) : Int) := by omega
      have hq0 : ((k / 8 : Nat) : Int) < (L.length : Int) := by omega
      have hq1 : k / 8 ≤ 1152921504606846975 := by omega
      generalize L.getD (k / 8) 0 = t at *
      generalize 7 - k % 8 = p at *
      generalize k / 8 = d at *
      go_enter Try.func9, Try.ntmps9
      go_wp2
      go_ret
      exact ⟨rfl, rfl⟩
    · rw [bitI_off (.inr (by omega))]
      clear h3
      go_enter Try.func9, Try.ntmps9
      go_wp2
      go_ret
      exact ⟨rfl, rfl⟩
theorem heads_start (L : List Int) (f t : Int) (f0 : -9223372036854775808 ≤ f) (f1 : f ≤ 9223372036854775807) (hl : L.length ≤ 100000) (h : ¬ lo0 f < hi0 L t) : headsI L f t = 0 := by
  unfold headsI; rw [if_neg h]
theorem headsI_at (L : List Int) (f t : Int) (k : Nat) (h1 : lo0 f ≤ k) (h2 : ¬ k < hi0 L t) (h3 : k = lo0 f ∨ k ≤ hi0 L t) : headsI L f t = cnt L k - cnt L (lo0 f) := by
  unfold headsI
  by_cases h : lo0 f < hi0 L t
  · rw [if_pos h]
    have : k = hi0 L t := by omega
    rw [this]
  · rw [if_neg h]
    have : k = lo0 f := by omega
    rw [this]; omega
set_option maxRecDepth 100000 in
set_option maxHeartbeats 1000000 in
theorem heads_any (L : List Int) (v : Value) (f t : Int) (w : World) (f0 : -9223372036854775808 ≤ f) (f1 : f ≤ 9223372036854775807) (t0 : -9223372036854775808 ≤ t) (t1 : t ≤ 9223372036854775807) (hl : L.length ≤ 1000) (h : Rd L v w) :
    Calls Try.prog 12 #[v, .int .i64 f, .int .i64 t] w fun e w' => e = .returned (.int .i64 (headsI L f t)) ∧ ∃ n, w' = w.drewN n := by
  have HR := Lib.hid h
  have HB := Lib.hid (fun (i : Int) (w : World) (i0 : -9223372036854775808 ≤ i) (i1 : i ≤ 9223372036854775807) (h : Rd L v w) => bit_any L v i w i0 i1 h)
  obtain ⟨hy, a, cap, rfl, h1, h2, h3⟩ := h
  clear h3 hy h1 h2
  have HH := Lib.hid (headsI_at L f t)
  have HC := Lib.hid (cnt_add L (lo0 f))
  have HLO := Lib.hid (show (lo0 f : Int) = max f 0 by unfold lo0; omega)
  have hlo : (lo0 f : Int) = f ∨ lo0 f = 0 := by unfold lo0; omega
  have hhi : hi0 L t ≤ 8000 := by unfold hi0; omega
  have HHI := Lib.hid (show (hi0 L t : Int) = max 0 (min t (L.length * 8)) by unfold hi0; omega)
  have HON := Lib.hid (fun (k : Nat) (h : k / 8 < L.length) => bitI_on h)
  have HBN := Lib.hid (fun (k : Nat) => bitN_bd L k)
  generalize headsI L f t = R at *
  generalize lo0 f = lo at *
  generalize hi0 L t = hi at *
  rcases Int.lt_or_le f 0 with hf | hf
  all_goals
    go_enter Try.func12, Try.ntmps12
    go_wp2
    go_loopw [7, 8] (fun x i wr => ∃ k n : Nat, lo ≤ k ∧ (k = lo ∨ k ≤ hi) ∧ i = .int .i64 (k : Int) ∧ Hid (x = .int .i64 (cnt L k - cnt L lo)) ∧ wr = w.drewN n) (fun _ i _ => hi - (intOf i).toNat)
    case atStart => exact ⟨lo, 0, by omega, by omega, by rw [HLO.out]; congr 1; omega, Lib.hid (by simp), rfl⟩
    case round =>
      obtain ⟨k, n, hk, hk2, rfl, HX, rfl⟩ := hrel
      by_cases hlt : k < hi
      · have hk8 : k / 8 < L.length := by have := HHI.out; omega
        have hc := HB.out (k : Int) (w.drewN n) (by omega) (by omega) HR.out
        rw [HON.out k hk8] at hc
        have hxb := HC.out (k - lo)
        rw [show lo + (k - lo) = k by omega] at hxb
        have hnb := HBN.out k
        have HST := Lib.hid (show cnt L (k + 1) = cnt L k + bitN L k from rfl)
        have hx := HX.out
        have h1 : (k : Int) < t := by have := HHI.out; omega
        have h2 : (k : Int) < (L.length : Int) * 8 := by have := HHI.out; omega
        clear hlo
        generalize bitN L k = y at *
        generalize cnt L k = x1 at *
        generalize cnt L lo = x0 at *
        rcases Int.lt_or_le ((L.length : Int) * 8) t with ht | ht
        all_goals
          subst hx
          go_wp2_with (go_at_call 8; refine hc.mono ?_; rintro e w2 ⟨rfl, m, rfl⟩)
          go_roundw
          case rel => exact ⟨k + 1, n + m, by omega, by omega, by go_num, Lib.hid (by rw [HST.out]; congr 1; omega), rfl⟩
          case measure => simp [intOf]; omega
      · have hr := HH.out k hk hlt hk2
        have hx := HX.out
        subst hx
        rw [← hr]
        have h1 : t ≤ (k : Int) ∨ (L.length : Int) * 8 ≤ (k : Int) := by have := HHI.out; omega
        clear hlo
        rcases Int.lt_or_le ((L.length : Int) * 8) t with ht | ht
        · have h2 : (L.length : Int) * 8 ≤ (k : Int) := by omega
          clear h1
          go_wp2
          go_ret
          exact ⟨rfl, n, rfl⟩
        · have h2 : t ≤ (k : Int) := by omega
          clear h1
          go_wp2
          go_ret
          exact ⟨rfl, n, rfl⟩
set_option maxRecDepth 100000 in
set_option maxHeartbeats 1000000 in
theorem rheads_any (L : List Int) (v : Value) (f t : Int) (w : World) (f0 : -9223372036854775808 ≤ f) (f1 : f ≤ 9223372036854775807) (t0 : -9223372036854775808 ≤ t) (t1 : t ≤ 9223372036854775807) (hl : L.length ≤ 1000) (h : Rd L v w) :
    Calls Try.prog 13 #[v, .int .i64 f, .int .i64 t] w fun e w' => e = .returned (.int .i64 (headsI L f t)) ∧ w = w' := by
  have HR := Lib.hid h
  have HB := Lib.hid (fun (i : Int) (w : World) (i0 : -9223372036854775808 ≤ i) (i1 : i ≤ 9223372036854775807) (h : Rd L v w) => rbit_any L v i w i0 i1 h)
  obtain ⟨hy, a, cap, rfl, h1, h2, h3⟩ := h
  clear h3 hy h1 h2
  have HH := Lib.hid (headsI_at L f t)
  have HC := Lib.hid (cnt_add L (lo0 f))
  have HLO := Lib.hid (show (lo0 f : Int) = max f 0 by unfold lo0; omega)
  have hlo : (lo0 f : Int) = f ∨ lo0 f = 0 := by unfold lo0; omega
  have hhi : hi0 L t ≤ 8000 := by unfold hi0; omega
  have HHI := Lib.hid (show (hi0 L t : Int) = max 0 (min t (L.length * 8)) by unfold hi0; omega)
  have HON := Lib.hid (fun (k : Nat) (h : k / 8 < L.length) => bitI_on h)
  have HBN := Lib.hid (fun (k : Nat) => bitN_bd L k)
  generalize headsI L f t = R at *
  generalize lo0 f = lo at *
  generalize hi0 L t = hi at *
  rcases Int.lt_or_le f 0 with hf | hf
  all_goals
    go_enter Try.func13, Try.ntmps13
    go_wp2
    go_loopw [7, 8] (fun x i wr => ∃ k : Nat, lo ≤ k ∧ (k = lo ∨ k ≤ hi) ∧ i = .int .i64 (k : Int) ∧ Hid (x = .int .i64 (cnt L k - cnt L lo)) ∧ wr = w) (fun _ i _ => hi - (intOf i).toNat)
    case atStart => exact ⟨lo, by omega, by omega, by rw [HLO.out]; congr 1; omega, Lib.hid (by simp), rfl⟩
    case round =>
      obtain ⟨k, hk, hk2, rfl, HX, rfl⟩ := hrel
      by_cases hlt : k < hi
      · have hk8 : k / 8 < L.length := by have := HHI.out; omega
        have hc := HB.out (k : Int) (wr) (by omega) (by omega) HR.out
        rw [HON.out k hk8] at hc
        have hxb := HC.out (k - lo)
        rw [show lo + (k - lo) = k by omega] at hxb
        have hnb := HBN.out k
        have HST := Lib.hid (show cnt L (k + 1) = cnt L k + bitN L k from rfl)
        have hx := HX.out
        have h1 : (k : Int) < t := by have := HHI.out; omega
        have h2 : (k : Int) < (L.length : Int) * 8 := by have := HHI.out; omega
        clear hlo
        generalize bitN L k = y at *
        generalize cnt L k = x1 at *
        generalize cnt L lo = x0 at *
        rcases Int.lt_or_le ((L.length : Int) * 8) t with ht | ht
        all_goals
          subst hx
          go_wp2_with (go_at_call 9; refine hc.mono ?_; rintro e w2 ⟨rfl, rfl⟩)
          go_roundw
          case rel => exact ⟨k + 1, by omega, by omega, by go_num, Lib.hid (by rw [HST.out]; congr 1; omega), trivial⟩
          case measure => simp [intOf]; omega
      · have hr := HH.out k hk hlt hk2
        have hx := HX.out
        subst hx
        rw [← hr]
        have h1 : t ≤ (k : Int) ∨ (L.length : Int) * 8 ≤ (k : Int) := by have := HHI.out; omega
        clear hlo
        rcases Int.lt_or_le ((L.length : Int) * 8) t with ht | ht
        · have h2 : (L.length : Int) * 8 ≤ (k : Int) := by omega
          clear h1
          go_wp2
          go_ret
          exact ⟨rfl, rfl⟩
        · have h2 : t ≤ (k : Int) := by omega
          clear h1
          go_wp2
          go_ret
          exact ⟨rfl, rfl⟩
end Go.Proofs.Ytginfmanaboibaa
