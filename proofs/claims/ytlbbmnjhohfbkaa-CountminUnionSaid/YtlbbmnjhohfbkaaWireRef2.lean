/- The contracts of the reference's numbers, words and strings, continued. -/
import Derived.Test.YtlbbmnjhohfbkaaWireRef
namespace Go.Proofs.Ytlbbmnjhohfbkaa
open Go.RowKit
set_option linter.unusedVariables false
set_option linter.unusedSimpArgs false
set_option maxRecDepth 100000 in
set_option maxHeartbeats 1000000 in
theorem rword_any (x : Nat) (w : World) (hx : x < 18446744073709551616) :
    Calls Try.prog 55 #[.int .u64 x] w fun e w' => ∃ v, e = .returned v ∧ Own w.heap.size (be x 8) v w' ∧ Below w.heap.size w w' := by
  go_enter Try.func55, Try.ntmps55
  go_wp2
  go_loopw [3, 4] (fun v i wr => ∃ (c : Nat) (M : List Int), c ≤ 8 ∧ i = .int .i64 ((c : Int) - 1) ∧ Own w.heap.size M v wr ∧ M ++ be x c = be x 8 ∧ M.length + c = 8 ∧ Below w.heap.size w wr)
    (fun _ i _ => (intOf i + 1).toNat)
  case atStart => exact ⟨8, [], by omega, rfl, Own.empty _ _, rfl, rfl, Below.refl _ _⟩
  case round =>
    obtain ⟨c, M, hc, rfl, hown, he, hl, hb⟩ := hrel
    by_cases hp : 0 < c
    · obtain ⟨d, rfl⟩ : ∃ d, c = d + 1 := ⟨c - 1, by omega⟩
      have hby := byte_at x d
      have hbd := mod_bd ((x : Int) / 2 ^ (8 * d))
      have HE := Lib.hid he
      have HO := Lib.hid hown
      have HB := Lib.hid hb
      have HY := Lib.hid hby
      clear he hb hby
      go_wp2_with (at_builtin; refine wp_app rfl _ _ _ rfl w.heap.size M [(x : Int) / 2 ^ (8 * d) % 256] _ _ rfl rfl (hown.alloc _) ?c1 ?c2 ?c3 ?_)
      case c1 => exact (Own.one hbd wr).rd.src
      case c2 => have := HB.out.size; simp <;> omega
      case c3 => simp <;> omega
      · intro v' w1 hown1 hb1
        have HB2 := Lib.hid ((HB.out.alloc HB.out.size _).trans hb1)
        have HO2 := Lib.hid hown1
        clear hown1 hb1 hown
        go_wp2
        go_roundw
        case rel => exact ⟨d, _, by omega, rfl, HO2.out, by rw [← HE.out, be, ← HY.out]; simp, by simp <;> omega, HB2.out⟩
        case measure => simp [intOf] <;> omega
    · obtain rfl : c = 0 := by omega
      have HE := Lib.hid he
      have HO := Lib.hid hown
      have HB := Lib.hid hb
      clear he hb hown
      go_wp2
      go_ret
      refine ⟨_, rfl, ?_, HB.out⟩
      have e := HE.out
      rw [be, List.append_nil] at e
      rw [← e]
      exact HO.out
theorem val_up {L : List Int} (hy : Byt L) (j : Nat) (h : j + 1 < L.length) (hj : j ≤ 7) :
    val ((L.take (j + 2)).drop 1) = bits .or .u64 (IntKind.u64.wrap (val ((L.take (j + 1)).drop 1) * 256)) (IntKind.u64.wrap (L.getD (j + 1) 0)) := by
  have e : (L.take (j + 2)).drop 1 = (L.take (j + 1)).drop 1 ++ [L.getD (j + 1) 0] := by
    rw [take_snoc L (j + 1) h, List.drop_append_of_le_length (by simp; omega)]
  rw [e, val_snoc]
  have hv := val_bd ((L.take (j + 1)).drop 1) ((hy.take _).drop 1)
  have hd := hy.at_ (j + 1)
  have hlen : ((L.take (j + 1)).drop 1).length = j := by simp; omega
  rw [hlen] at hv
  have hp : 256 ^ j ≤ 256 ^ 7 := Nat.pow_le_pow_right (by decide) (by omega)
  have h7 : (256 : Nat) ^ 7 = 72057594037927936 := by decide
  have hw : IntKind.u64.wrap (L.getD (j + 1) 0) = L.getD (j + 1) 0 := by rw [IntKind.wrap_u64]; omega
  rw [hw]
  exact (or_byte _ _ hv.1 (by omega) hd.1 hd.2).symm
set_option maxRecDepth 100000 in
set_option maxHeartbeats 4000000 in
theorem rdecUint_any (L : List Int) (v : Value) (w : World) (h : Rd L v w) :
    Calls Try.prog 72 #[v] w fun e w' => e = .returned (.tuple #[.int .i64 (decU L).1, .int .i64 (decU L).2.1, .int .i64 (decU L).2.2]) ∧ w = w' := by
  obtain ⟨hy, a, cap, rfl, h1, h2, h3⟩ := h
  unfold maxLen at h2
  unfold decU
  by_cases hl : L.length = 0
  · rw [if_pos hl, hl]
    clear h3
    go_enter Try.func72, Try.ntmps72
    go_wp2
    go_ret3
    exact ⟨rfl, rfl⟩
  · rw [if_neg hl]
    obtain ⟨b, off, rfl, hb, hcell⟩ := h3 (by omega)
    have c0 := hcell 0 (by omega)
    rw [Nat.add_zero] at c0
    have hcd := hy.at_ 0
    have HC := Lib.hid hcell
    have HY := Lib.hid hy
    clear hcell h3 hy
    by_cases hs : L.getD 0 0 < 248
    · rw [if_pos hs]
      generalize L.getD 0 0 = c at *
      go_enter Try.func72, Try.ntmps72
      go_wp2
      go_ret3
      exact ⟨rfl, rfl⟩
    · rw [if_neg hs]
      obtain ⟨k, hk⟩ : ∃ k : Nat, L.getD 0 0 = 247 + (k : Int) := ⟨(L.getD 0 0 - 247).toNat, by omega⟩
      have hk2 : L.getD 0 0 - 246 = ((k + 1 : Nat) : Int) := by omega
      rw [hk2, Int.toNat_natCast]
      have hu : 247 + (k : Int) - 247 = k := by omega
      rw [hk] at c0 hs hcd
      clear hk hk2
      by_cases hcut : (L.length : Int) < ((k + 1 : Nat) : Int)
      · rw [if_pos hcut]
        go_enter Try.func72, Try.ntmps72
        go_wp2
        go_ret3
        exact ⟨rfl, rfl⟩
      · rw [if_neg hcut]
        obtain ⟨r, hr⟩ : ∃ r : Int × Int × Int, r = (if L.getD 1 0 = 0 ∨ val ((L.take (k + 1)).drop 1) < 248 ∨ 4611686018427387904 < val ((L.take (k + 1)).drop 1) then (0, 0, 2) else (val ((L.take (k + 1)).drop 1), ((k + 1 : Nat) : Int), 0)) := ⟨_, rfl⟩
        rw [← hr]
        have HR := Lib.hid hr
        clear hr
        go_enter Try.func72, Try.ntmps72
        go_wp2
        go_loop [6, 7] (fun n i => ∃ j : Nat, j ≤ k ∧ i = .int .i64 ((j : Int) + 1) ∧ n = .int .u64 (val ((L.take (j + 1)).drop 1))) (fun _ i => k + 1 - (intOf i).toNat)
        case atStart =>
          refine ⟨0, by omega, rfl, ?_⟩
          have : (L.take (0 + 1)).drop 1 = [] := by simp
          rw [this]; rfl
        case round =>
          obtain ⟨j, hj, rfl, rfl⟩ := hrel
          by_cases hlt : j < k
          · have hc := HC.out (j + 1) (by omega)
            have hst := val_up HY.out j (by omega) (by omega)
            have hc2 : w.cell? ⟨b, off + (j + 1), none⟩ = some (.int .u8 (L.getD (j + 1) 0)) := hc
            have HS := Lib.hid hst
            clear hst hc
            generalize L.getD (j + 1) 0 = t at *
            generalize val ((L.take (j + 1)).drop 1) = x at *
            go_wp2
            go_round
            case rel => exact ⟨j + 1, by omega, by go_num, by rw [HS.out]⟩
            case measure => simp [intOf] <;> omega
          · obtain rfl : j = k := by omega
            have c1 := HC.out 1 (by omega)
            have hvb := val_bd ((L.take (j + 1)).drop 1) ((HY.out.take _).drop 1)
            have hlen : ((L.take (j + 1)).drop 1).length = j := by simp; omega
            rw [hlen] at hvb
            have hp : 256 ^ j ≤ 256 ^ 8 := Nat.pow_le_pow_right (by decide) (by omega)
            have h8 : (256 : Nat) ^ 8 = 18446744073709551616 := by decide
            have hx0 : 0 ≤ val ((L.take (j + 1)).drop 1) := hvb.1
            have hx1 : val ((L.take (j + 1)).drop 1) < 18446744073709551616 := by omega
            have hcd1 := HY.out.at_ 1
            clear hvb hlen hp h8
            generalize val ((L.take (j + 1)).drop 1) = x at *
            generalize L.getD 1 0 = t at *
            by_cases ht : t = 0
            · subst ht
              go_wp2
              go_ret3
              rw [HR.out, if_pos (Or.inl trivial)]
              exact ⟨rfl, rfl⟩
            · have ht2 : (t == 0) = false := by simp [ht]
              by_cases hx2 : x < 248
              · go_wp2
                go_ret3
                rw [HR.out, if_pos (Or.inr (Or.inl hx2))]
                exact ⟨rfl, rfl⟩
              · by_cases hx3 : 4611686018427387904 < x
                · go_wp2
                  go_ret3
                  rw [HR.out, if_pos (Or.inr (Or.inr hx3))]
                  exact ⟨rfl, rfl⟩
                · go_wp2
                  go_ret3
                  rw [HR.out, if_neg (by omega)]
                  exact ⟨rfl, rfl⟩
theorem val_take {L : List Int} (hy : Byt L) (j : Nat) (h : j < L.length) (hj : j ≤ 7) :
    val (L.take (j + 1)) = bits .or .u64 (IntKind.u64.wrap (val (L.take j) * 256)) (IntKind.u64.wrap (L.getD j 0)) := by
  rw [take_snoc L j h, val_snoc]
  have hv := val_bd (L.take j) (hy.take j)
  have hd := hy.at_ j
  have hlen : (L.take j).length = j := by simp; omega
  rw [hlen] at hv
  have hp : 256 ^ j ≤ 256 ^ 7 := Nat.pow_le_pow_right (by decide) (by omega)
  have h7 : (256 : Nat) ^ 7 = 72057594037927936 := by decide
  have hw : IntKind.u64.wrap (L.getD j 0) = L.getD j 0 := by rw [IntKind.wrap_u64]; omega
  rw [hw]
  exact (or_byte _ _ hv.1 (by omega) hd.1 hd.2).symm
set_option maxRecDepth 100000 in
set_option maxHeartbeats 1000000 in
theorem rdecWord_any (L : List Int) (v : Value) (w : World) (h : Rd L v w) :
    Calls Try.prog 73 #[v] w fun e w' => e = .returned (.tuple #[.int .u64 (decW L).1, .int .i64 (decW L).2.1, .int .i64 (decW L).2.2]) ∧ w = w' := by
  obtain ⟨hy, a, cap, rfl, h1, h2, h3⟩ := h
  unfold maxLen at h2
  unfold decW
  by_cases hl : L.length < 8
  · rw [if_pos hl]
    clear h3
    go_enter Try.func73, Try.ntmps73
    go_wp2
    go_ret3
    exact ⟨rfl, rfl⟩
  · rw [if_neg hl]
    obtain ⟨b, off, rfl, hb, hcell⟩ := h3 (by omega)
    have HC := Lib.hid hcell
    have HY := Lib.hid hy
    clear h3 hcell hy
    go_enter Try.func73, Try.ntmps73
    go_wp2
    go_loop [5, 6] (fun x i => ∃ j : Nat, j ≤ 8 ∧ i = .int .i64 (j : Int) ∧ x = .int .u64 (val (L.take j))) (fun _ i => 8 - (intOf i).toNat)
    case atStart => exact ⟨0, by omega, rfl, rfl⟩
    case round =>
      obtain ⟨j, hj, rfl, rfl⟩ := hrel
      by_cases hlt : j < 8
      · have hc := HC.out j (by omega)
        have hst := val_take HY.out j (by omega) (by omega)
        have HS := Lib.hid hst
        clear hst
        generalize L.getD j 0 = t at *
        generalize val (L.take j) = x at *
        go_wp2
        go_round
        case rel => exact ⟨j + 1, by omega, by go_num, by rw [HS.out]⟩
        case measure => simp [intOf] <;> omega
      · obtain rfl : j = 8 := by omega
        go_wp2
        go_ret3
        exact ⟨rfl, rfl⟩
end Go.Proofs.Ytlbbmnjhohfbkaa
