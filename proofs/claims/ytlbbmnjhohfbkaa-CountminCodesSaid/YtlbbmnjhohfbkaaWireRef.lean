/- The contracts of the reference's numbers, words and strings. -/
import Derived.Test.YtlbbmnjhohfbkaaWire
namespace Go.Proofs.Ytlbbmnjhohfbkaa
open Go.RowKit
set_option linter.unusedVariables false
set_option linter.unusedSimpArgs false
theorem div_up (n j : Nat) : n / 256 ^ j / 256 = n / 256 ^ (j + 1) := by rw [Nat.div_div_eq_div_mul, Nat.pow_succ]
set_option maxRecDepth 100000 in
set_option maxHeartbeats 2000000 in
theorem ruint_any (n : Nat) (w : World) (hn : n < 9223372036854775808) :
    Calls Try.prog 54 #[.int .i64 n] w fun e w' => ∃ v, e = .returned v ∧ Own w.heap.size (uintB n) v w' ∧ Below w.heap.size w w' := by
  by_cases hs : n < 248
  · have e : uintB n = [(n : Int)] := by unfold uintB; rw [if_pos hs]
    rw [e]
    clear e
    have hm : (n : Int) % 256 = n := by omega
    go_enter Try.func54, Try.ntmps54
    go_wp2
    go_ret
    exact ⟨_, rfl, Own.one (by omega) w, (Below.refl _ w).alloc (Nat.le_refl _) _⟩
  · go_enter Try.func54, Try.ntmps54
    go_wp2
    go_loopw [0, 3] (fun m b wr => ∃ j : Nat, j ≤ 8 ∧ m = .int .i64 ((n / 256 ^ j : Nat) : Int) ∧ Own w.heap.size (be n j) b wr ∧ (j = 0 ∨ 256 ^ (j - 1) ≤ n) ∧ Below w.heap.size w wr)
      (fun m _ _ => (intOf m).toNat)
    case atStart => exact ⟨0, by omega, by simp, Own.empty _ _, Or.inl rfl, Below.refl _ _⟩
    case round =>
      obtain ⟨j, hj, rfl, hown, hlow, hb⟩ := hrel
      have hd := div_up n j
      have hle := Nat.div_le_self n (256 ^ j)
      by_cases hp : 0 < n / 256 ^ j
      · have hpow : 256 ^ j ≤ n := by
          rcases Nat.lt_or_ge n (256 ^ j) with h | h
          · rw [Nat.div_eq_of_lt h] at hp; omega
          · exact h
        have hj7 : j ≤ 7 := by
          rcases Nat.lt_or_ge 7 j with h | h
          · exfalso
            have : 256 ^ 8 ≤ 256 ^ j := Nat.pow_le_pow_right (by decide) (by omega)
            have h8 : (256 : Nat) ^ 8 = 18446744073709551616 := by decide
            omega
          · exact h
        have hbe : be n (j + 1) = [((n / 256 ^ j % 256 : Nat) : Int)] ++ be n j := rfl
        have hln := be_len n j
        have hpow' : 256 ^ (j + 1 - 1) ≤ n := hpow
        have H1 := Lib.hid hbe
        have H2 := Lib.hid hln
        have H3 := Lib.hid hb
        have H4 := Lib.hid hpow'
        have H5 := Lib.hid hd
        have H6 := Lib.hid hown
        clear hpow hpow' hlow hbe hb hln hd hown
        generalize be n j = BJ at *
        generalize n / 256 ^ j = m at *
        have hm : ((m % 256 : Nat) : Int) = (m : Int) % 256 := by omega
        have hmb := mod_bd (m : Int)
        rw [hm] at H1
        clear hm
        go_wp2_with (at_builtin; refine wp_app rfl _ _ _ rfl wr.heap.size [(m : Int) % 256] BJ _ _ rfl rfl (Own.one hmb wr) ((H6.out.alloc _).rd.src) ?c2 ?c3 ?_)
        case c2 => simp <;> omega
        case c3 => rw [H2.out]; simp <;> omega
        · intro v' w1 hown1 hb1
          have hsz := H3.out.size
          have HB2 := Lib.hid ((H3.out.alloc hsz _).trans (hb1.mono hsz))
          have HO2 := Lib.hid (hown1.mono hsz)
          clear hown1 hb1
          go_wp2
          go_roundw
          case rel => exact ⟨j + 1, by omega, by rw [← H5.out]; go_num, by rw [H1.out]; exact HO2.out, Or.inr H4.out, HB2.out⟩
          case measure => simp [intOf] <;> omega
      · have hz : n / 256 ^ j = 0 := Nat.eq_zero_of_not_pos hp
        have hlt : n < 256 ^ j := by
          rcases Nat.lt_or_ge n (256 ^ j) with h | h
          · exact h
          · have := Nat.div_pos h (Nat.pow_pos (by decide)); omega
        have hj1 : 1 ≤ j := by
          rcases Nat.eq_zero_or_pos j with h | h
          · subst h; simp at hlt; omega
          · exact h
        have hlow' : 256 ^ (j - 1) ≤ n := by rcases hlow with h | h <;> omega
        have hnb := nb_of (by omega) (by omega) hj1 hlow' hlt
        have e : uintB n = [((247 + j : Nat) : Int)] ++ be n j := by unfold uintB; rw [if_neg hs, hnb]; rfl
        rw [hz]
        have hln := be_len n j
        obtain ⟨ba, bc, rfl⟩ := hown.shape
        rw [hln] at hown ⊢
        have H1 := Lib.hid e
        have H2 := Lib.hid hln
        have H3 := Lib.hid hb
        have H6 := Lib.hid hown
        clear e hln hb hown hlow hlow' hnb hlt hz hd hle hp
        generalize be n j = BJ at *
        obtain ⟨c, hcd⟩ : ∃ c : Int, c = ((247 + j : Nat) : Int) := ⟨_, rfl⟩
        rw [← hcd] at H1
        have hkc : 247 + (j : Int) = c := by omega
        have hkm : c % 256 = c := by omega
        have HC := Lib.hid hcd
        clear hcd
        go_wp2_with (at_builtin; refine wp_app rfl _ _ _ rfl wr.heap.size [c] BJ _ _ rfl rfl (Own.one (by have := HC.out; omega) wr) ((H6.out.alloc _).rd.src) ?d2 ?d3 ?_)
        case d2 => simp <;> omega
        case d3 => rw [H2.out]; simp <;> omega
        · intro v' w1 hown1 hb1
          have hsz := H3.out.size
          have HB2 := Lib.hid ((H3.out.alloc hsz _).trans (hb1.mono hsz))
          have HO2 := Lib.hid (hown1.mono hsz)
          clear hown1 hb1
          go_wp2
          go_ret
          exact ⟨_, rfl, by rw [H1.out]; exact HO2.out, HB2.out⟩
end Go.Proofs.Ytlbbmnjhohfbkaa
