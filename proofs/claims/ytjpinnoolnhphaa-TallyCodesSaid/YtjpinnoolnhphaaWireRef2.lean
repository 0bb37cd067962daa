/- The contracts of the reference's numbers, words and strings, continued. -/
import Derived.Test.YtjpinnoolnhphaaWireRef
namespace Go.Proofs.Ytjpinnoolnhphaa
open Go.RowKit
set_option linter.unusedVariables false
set_option linter.unusedSimpArgs false
theorem val_up {L : List Int} (hy : Byt L) (j : Nat) (h : j + 1 < L.length) (hj : j ≤ 7) :
    val ((L.take (j + 2)).drop 1) = bits .or .u64 (IntKind.u64.wrap (val ((L.take (j + 1)).drop 1) * 256)) (IntKind.u64.wrap (L.getD (j + 1) 0)) := by
  have e : (L.take (j + 2)).drop 1 = (L.take (j + 1)).drop 1 ++ [L.getD (j + 1) 0] := by
    rw [take_snoc L (j + 1) h, List.drop_append_of_le_length (by simp; omega)]
  rw [e, val_snoc]
  have hv := val_bd ((L.take (j + 1)).drop 1) ((hy.take _).drop 1)
  have hd := hy.at_ (j + 1)
  have hlen : ((L.take (j + 1)).drop 1).length = j := by simp; omega
  rw [hlen] at hv
  have hp : 256 ^ j ≤ 256 ^ 7 := Nat.pow_le_pow_right (by decide) (by omega)
  have h7 : (256 : Nat) ^ 7 = 72057594037927936 := by decide
  have hw : IntKind.u64.wrap (L.getD (j + 1) 0) = L.getD (j + 1) 0 := by rw [IntKind.wrap_u64]; omega
  rw [hw]
  exact (or_byte _ _ hv.1 (by omega) hd.1 hd.2).symm
set_option maxRecDepth 100000 in
set_option maxHeartbeats 4000000 in
theorem rdecUint_any (L : List Int) (v : Value) (w : World) (h : Rd L v w) :
    Calls Try.prog 40 #[v] w fun e w' => e = .returned (.tuple #[.int .i64 (decU L).1, .int .i64 (decU L).2.1, .int .i64 (decU L).2.2]) ∧ w = w' := by
  obtain ⟨hy, a, cap, rfl, h1, h2, h3⟩ := h
  unfold maxLen at h2
  unfold decU
  by_cases hl : L.length = 0
  · rw [if_pos hl, hl]
    clear h3
    go_enter Try.func40, Try.ntmps40
    go_wp2
    go_ret3
    exact ⟨rfl, rfl⟩
  · rw [if_neg hl]
    obtain ⟨b, off, rfl, hb, hcell⟩ := h3 (by omega)
    have c0 := hcell 0 (by omega)
    rw [Nat.add_zero] at c0
    have hcd := hy.at_ 0
    have HC := Lib.hid hcell
    have HY := Lib.hid hy
    clear hcell h3 hy
    by_cases hs : L.getD 0 0 < 248
    · rw [if_pos hs]
      generalize L.getD 0 0 = c at *
      go_enter Try.func40, Try.ntmps40
      go_wp2
      go_ret3
      exact ⟨rfl, rfl⟩
    · rw [if_neg hs]
      obtain ⟨k, hk⟩ : ∃ k : Nat, L.getD 0 0 = 247 + (k : Int) := ⟨(L.getD 0 0 - 247).toNat, by omega⟩
      have hk2 : L.getD 0 0 - 246 = ((k + 1 : Nat) : Int) := by omega
      rw [hk2, Int.toNat_natCast]
      have hu : 247 + (k : Int) - 247 = k := by omega
      rw [hk] at c0 hs hcd
      clear hk hk2
      by_cases hcut : (L.length : Int) < ((k + 1 : Nat) : Int)
      · rw [if_pos hcut]
        go_enter Try.func40, Try.ntmps40
        go_wp2
        go_ret3
        exact ⟨rfl, rfl⟩
      · rw [if_neg hcut]
        obtain ⟨r, hr⟩ : ∃ r : Int × Int × Int, r = (if L.getD 1 0 = 0 ∨ val ((L.take (k + 1)).drop 1) < 248 ∨ 4611686018427387904 < val ((L.take (k + 1)).drop 1) then (0, 0, 2) else (val ((L.take (k + 1)).drop 1), ((k + 1 : Nat) : Int), 0)) := ⟨_, rfl⟩
        rw [← hr]
        have HR := Lib.hid hr
        clear hr
        go_enter Try.func40, Try.ntmps40
        go_wp2
        go_loop [6, 7] (fun n i => ∃ j : Nat, j ≤ k ∧ i = .int .i64 ((j : Int) + 1) ∧ n = .int .u64 (val ((L.take (j + 1)).drop 1))) (fun _ i => k + 1 - (intOf i).toNat)
        case atStart =>
          refine ⟨0, by omega, rfl, ?_⟩
          have : (L.take (0 + 1)).drop 1 = [] := by simp
          rw [this]; rfl
        case round =>
          obtain ⟨j, hj, rfl, rfl⟩ := hrel
          by_cases hlt : j < k
          · have hc := HC.out (j + 1) (by omega)
            have hst := val_up HY.out j (by omega) (by omega)
            have hc2 : w.cell? ⟨b, off + (j + 1), none⟩ = some (.int .u8 (L.getD (j + 1) 0)) := hc
            have HS := Lib.hid hst
            clear hst hc
            generalize L.getD (j + 1) 0 = t at *
            generalize val ((L.take (j + 1)).drop 1) = x at *
            go_wp2
            go_round
            case rel => exact ⟨j + 1, by omega, by go_num, by rw [HS.out]⟩
            case measure => simp [intOf] <;> omega
          · obtain rfl : j = k := by omega
            have c1 := HC.out 1 (by omega)
            have hvb := val_bd ((L.take (j + 1)).drop 1) ((HY.out.take _).drop 1)
            have hlen : ((L.take (j + 1)).drop 1).length = j := by simp; omega
            rw [hlen] at hvb
            have hp : 256 ^ j ≤ 256 ^ 8 := Nat.pow_le_pow_right (by decide) (by omega)
            have h8 : (256 : Nat) ^ 8 = 18446744073709551616 := by decide
            have hx0 : 0 ≤ val ((L.take (j + 1)).drop 1) := hvb.1
            have hx1 : val ((L.take (j + 1)).drop 1) < 18446744073709551616 := by omega
            have hcd1 := HY.out.at_ 1
            clear hvb hlen hp h8
            generalize val ((L.take (j + 1)).drop 1) = x at *
            generalize L.getD 1 0 = t at *
            by_cases ht : t = 0
            · subst ht
              go_wp2
              go_ret3
              rw [HR.out, if_pos (Or.inl trivial)]
              exact ⟨rfl, rfl⟩
            · have ht2 : (t == 0) = false := by simp [ht]
              by_cases hx2 : x < 248
              · go_wp2
                go_ret3
                rw [HR.out, if_pos (Or.inr (Or.inl hx2))]
                exact ⟨rfl, rfl⟩
              · by_cases hx3 : 4611686018427387904 < x
                · go_wp2
                  go_ret3
                  rw [HR.out, if_pos (Or.inr (Or.inr hx3))]
                  exact ⟨rfl, rfl⟩
                · go_wp2
                  go_ret3
                  rw [HR.out, if_neg (by omega)]
                  exact ⟨rfl, rfl⟩
theorem val_take {L : List Int} (hy : Byt L) (j : Nat) (h : j < L.length) (hj : j ≤ 7) :
    val (L.take (j + 1)) = bits .or .u64 (IntKind.u64.wrap (val (L.take j) * 256)) (IntKind.u64.wrap (L.getD j 0)) := by
  rw [take_snoc L j h, val_snoc]
  have hv := val_bd (L.take j) (hy.take j)
  have hd := hy.at_ j
  have hlen : (L.take j).length = j := by simp; omega
  rw [hlen] at hv
  have hp : 256 ^ j ≤ 256 ^ 7 := Nat.pow_le_pow_right (by decide) (by omega)
  have h7 : (256 : Nat) ^ 7 = 72057594037927936 := by decide
  have hw : IntKind.u64.wrap (L.getD j 0) = L.getD j 0 := by rw [IntKind.wrap_u64]; omega
  rw [hw]
  exact (or_byte _ _ hv.1 (by omega) hd.1 hd.2).symm
end Go.Proofs.Ytjpinnoolnhphaa
