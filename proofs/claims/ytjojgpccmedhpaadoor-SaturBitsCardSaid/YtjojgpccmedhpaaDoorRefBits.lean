/- The contracts of the document's own LeadingZeros and Powers (package sketchstoreref1) at this translation. -/
import Derived.Test.YtjojgpccmedhpaaDoorKnown1
import Derived.Test.YtjojgpccmedhpaaDoorMask
namespace Go.Proofs.YtjojgpccmedhpaaDoor
open Go.RowKit
set_option linter.unusedVariables false
set_option linter.unusedSimpArgs false
theorem bitLen_of (x k : Nat) (hx : x < 18446744073709551616) (hk : k < 64) (hlt : x < 2 ^ (64 - k)) (hb : x.testBit (63 - k) = true) : Lib.bitLen x = 64 - k := by
  have hp : 0 < 2 ^ (63 - k) := Nat.two_pow_pos _
  have hge : 2 ^ (63 - k) ≤ x := Nat.ge_two_pow_of_testBit hb
  have e : 2 ^ (64 - k) = 2 ^ (63 - k) * 2 := by rw [← Nat.pow_succ]; congr 1; omega
  have h1 : x / 2 ^ (63 - k) = 1 := Nat.div_eq_of_lt_le (by omega) (by omega)
  rw [Lib.bitLen_shift (63 - k) x hge hx, h1, show Lib.bitLen 1 = 1 by decide]
  omega
theorem lt_of_bit (x k : Nat) (hk : k < 64) (hlt : x < 2 ^ (64 - k)) (hb : x.testBit (63 - k) = false) : x < 2 ^ (64 - (k + 1)) := by
  have e : 64 - (k + 1) = 63 - k := by omega
  rw [e]
  apply Nat.lt_pow_two_of_testBit
  intro i hi
  by_cases h : i = 63 - k
  · rw [h, hb]
  · exact Nat.testBit_lt_two_pow (Nat.lt_of_lt_of_le hlt (Nat.pow_le_pow_right (by decide) (by omega)))
theorem ref_lz_any (x : Nat) (hx : x < 18446744073709551616) (w : World) :
    Calls Tryd.prog 20 #[.int .u64 x] w fun e w' => e = .returned (.int .i64 (64 - (Lib.bitLen x : Int))) ∧ w = w' := by
  go_enter Tryd.func20, Tryd.ntmps20
  go_wp2
  go_loop [3] (fun n => ∃ k : Nat, k ≤ 64 ∧ n = .int .i64 k ∧ x < 2 ^ (64 - k)) (fun n => 64 - (intOf n).toNat)
  case atStart => exact ⟨0, by omega, rfl, by simpa using hx⟩
  case round =>
    obtain ⟨k, hk, rfl, hlt⟩ := hrel
    by_cases h : k < 64
    · have hu := u64_bit x (63 - k) hx
      cases hb : x.testBit (63 - k)
      · rw [hb] at hu
        have hu' : (bits BinOp.and IntKind.u64 ((x : Int) / 2 ^ (63 - k)) 1 == 0) = true := by rw [hu]; rfl
        have H := Lib.hid (lt_of_bit x k h hlt hb)
        clear hu hb hlt
        go_wp2
        go_round
        case rel => exact ⟨k + 1, by omega, by go_num, H.out⟩
        case measure => simp [intOf]; omega
      · rw [hb] at hu
        have hu' : (bits BinOp.and IntKind.u64 ((x : Int) / 2 ^ (63 - k)) 1 == 0) = false := by rw [hu]; rfl
        have H := Lib.hid (bitLen_of x k hx h hlt hb)
        clear hu hb hlt
        go_wp2
        go_ret
        exact ⟨ret_int (by rw [H.out]; omega), rfl⟩
    · have H : Hid (x = 0) := Lib.hid (by have e : 64 - k = 0 := by omega
                                          rw [e] at hlt; omega)
      obtain rfl : k = 64 := by omega
      clear hlt
      go_wp2
      go_ret
      exact ⟨ret_int (by rw [H.out]; decide), rfl⟩
theorem ref_powers_none (n : Int) (w : World) (h : n ≤ 0) :
    Calls Tryd.prog 18 #[.int .i64 n] w fun e w' => ∃ v, e = .returned v ∧ Made w.heap.size (pows 0 63) v w' ∧ Below w.heap.size w w' := by
  have hp : pows 0 63 = [] := by decide
  go_enter Tryd.func18, Tryd.ntmps18
  go_wp2
  refine wp_loop_rounds 1 ?_
  rw [rounds_succ]
  go_wp2
  go_ret
  exact ⟨_, rfl, by rw [hp]; exact World.ownsRow_nil _ _ _ _, Below.refl _ _⟩
set_option maxHeartbeats 1000000 in
theorem ref_powers_some (r : Nat) (w : World) (h0 : 0 < r) (h1 : r < 9223372036854775808) :
    Calls Tryd.prog 18 #[.int .i64 r] w fun e w' => ∃ v, e = .returned v ∧ Made w.heap.size (pows r 63) v w' ∧ Below w.heap.size w w' := by
  obtain ⟨i0, hi, hz0, hz1, hz2⟩ := info_parts info_int
  go_enter Tryd.func18, Tryd.ntmps18
  go_wp2
  go_loopw [3, 4] (fun v i wr => ∃ c : Nat, c ≤ 63 ∧ i = .int .i64 c ∧ Made w.heap.size (pows r c) v wr ∧ Below w.heap.size w wr)
    (fun _ i _ => 63 - (intOf i).toNat)
  case atStart => exact ⟨0, by omega, rfl, World.ownsRow_nil _ _ _ _, Below.refl _ _⟩
  case round =>
    obtain ⟨c, hc, rfl, hown, hnx⟩ := hrel
    have hsz := hnx.size
    have hpl := pows_le r c
    by_cases hlt : c < 63
    · have hu := i64_bit r c h1
      cases hb : r.testBit c
      · rw [hb] at hu
        have hu' : (bits BinOp.and IntKind.i64 ((r : Int) / 2 ^ c) 1 == 1) = false := by rw [hu]; rfl
        have H := Lib.hid (pows_succ_miss hb)
        have H2 := Lib.hid hown
        have H3 := Lib.hid hnx
        clear hu hb hown hnx
        go_wp2
        go_roundw
        case rel => exact ⟨c + 1, by omega, by go_num, by rw [H.out]; exact H2.out, H3.out⟩
        case measure => simp [intOf]; omega
      · rw [hb] at hu
        have hu' : (bits BinOp.and IntKind.i64 ((r : Int) / 2 ^ c) 1 == 1) = true := by rw [hu]; rfl
        have H := Lib.hid (pows_succ_hit hb)
        clear hu hb
        go_wp2_with (at_builtin; refine wpList_append_own _ rfl _ _ 31 rfl w.heap.size 3 i0 (.int .i64 0) 1 8 Tryd.underlying31 hi hz0 hz1 hz2 rfl (by decide) _ _ _ rfl (World.ownsRow.alloc hown _) ⟨wr.heap.size, 0, none⟩ 1 1 [.int .i64 (c : Int)] rfl rfl ?c1 ?c2 ?c3 ?c4 ?c5 ?_)
        case c1 =>
          intro j u hj
          match j, hj with
          | 0, hj => simp at hj; subst hj; simp [Addr.add]
        case c2 => intro u hu; simp at hu; subst hu; rfl
        case c3 => unfold maxLen; omega
        case c4 => omega
        case c5 => simp; omega
        · intro v' w1 hown' hgrow _
          have H5 := Lib.hid (made_step hown')
          have H6 := Lib.hid ((hnx.alloc hsz _).grown hgrow (by simp; omega) (fun g hg' => (World.ownsRow.lt hown g hg').1))
          clear hown' hgrow hown hnx
          go_wp2
          go_roundw
          case rel => exact ⟨c + 1, by omega, by go_num, by rw [H.out]; exact H5.out, H6.out⟩
          case measure => simp [intOf]; omega
    · obtain rfl : c = 63 := by omega
      have H2 := Lib.hid hown
      have H3 := Lib.hid hnx
      clear hown hnx
      go_wp2
      go_ret
      exact ⟨_, rfl, H2.out, H3.out⟩
theorem ref_powers_any (n : Int) (r : Nat) (w : World) (hr : nat0 n = r) (h1 : n ≤ 9223372036854775807) :
    Calls Tryd.prog 18 #[.int .i64 n] w fun e w' => ∃ v, e = .returned v ∧ Made w.heap.size (pows r 63) v w' ∧ Below w.heap.size w w' := by
  unfold nat0 at hr
  by_cases h : n ≤ 0
  · obtain rfl : r = 0 := by omega
    exact ref_powers_none n w h
  · obtain rfl : n = r := by omega
    exact ref_powers_some r w (by omega) (by omega)
end Go.Proofs.YtjojgpccmedhpaaDoor
